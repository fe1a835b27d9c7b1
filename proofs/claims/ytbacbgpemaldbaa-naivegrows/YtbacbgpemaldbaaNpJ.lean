/- A word behind a merge: the program's Join, walked. -/
import Derived.Test.YtbacbgpemaldbaaNpM
import Derived.DeepKeys
import Derived.Test.YtbacbgpemaldbaaNvW
import Derived.Deep.RegionHeld3
namespace Go.Proofs.Ytbacbgpemaldbaa
open Go.RowKit

set_option maxRecDepth 100000 in
theorem couple_eql {a b : Mg} (ha : FitsM a) (hb : FitsM b) (w : World) : (binOp .eql 54 (kv a) (kv b)).run Try.prog w = .ok (.bool (decide (a = b))) w := by
  have fa : (kv a).formed Try.prog 54 = true := by simp [kv, Value.formed, Try.underlying54, np_cells]
  have fb : (kv b).formed Try.prog 54 = true := by simp [kv, Value.formed, Try.underlying54, np_cells]
  have la := lits_couple 0 ha.1 ha.2
  have lb := lits_couple 0 hb.1 hb.2
  obtain ⟨r, hr, hiff⟩ := run_equalIn_deep (P := Try.prog) 9998 2 54 (by kernel_rfl) w 2 2 (kv a) (kv b) _ _ fa fb la lb
  have e : (binOp .eql 54 (kv a) (kv b)).run Try.prog w = ((Op.equalIn 10000 54 (kv a) (kv b)).run Try.prog w).andThen fun b w' => .ok (.bool b) w' := by
    unfold kv
    simp [go_sem]
  rw [e, show (10000 : Nat) = 9998 + 2 from rfl, hr]
  have h2 : r = decide (a = b) := by
    rw [Bool.eq_iff_iff, hiff, decide_eq_true_iff]
    constructor
    · intro h
      simp only [List.cons.injEq, Lit.string.injEq, and_true] at h
      exact Prod.ext (bs_inj h.1) (bs_inj h.2)
    · intro h
      rw [h]
  rw [h2]
  rfl
set_option maxRecDepth 100000 in
theorem couple_eql_yes {a b : ByteArray} (h : FitsM (a, b)) (w : World) : (binOp .eql 54 (.agg #[.string a, .string b]) (.agg #[.string a, .string b])).run Try.prog w = .ok (.bool true) w := by
  have := couple_eql h h w
  rwa [decide_eq_true rfl] at this
set_option maxRecDepth 100000 in
theorem couple_eql_no {a b c d : ByteArray} (h1 : FitsM (a, b)) (h2 : FitsM (c, d)) (h : ¬ (a, b) = (c, d)) (w : World) : (binOp .eql 54 (.agg #[.string a, .string b]) (.agg #[.string c, .string d])).run Try.prog w = .ok (.bool false) w := by
  have := couple_eql h1 h2 w
  rwa [decide_eq_false h] at this
set_option maxRecDepth 100000 in
set_option maxHeartbeats 8000000 in
theorem pjoin_any (m : Mg) (x : Value) (W : List ByteArray) (w : World) (hx : eltsAt textE w x W) (hl : W.length ≤ 1000000) (hm : m.1.size + m.2.size ≤ 1000000) (hsz : ∀ t ∈ W, t.size ≤ 1000000) :
    Calls Try.prog 15 #[x, .agg #[.string m.1, .string m.2]] w fun e w' => JnRet m W w e w' := by
  obtain ⟨m1, m2⟩ := m
  obtain ⟨M, hM⟩ : ∃ M, w.heap.size = M := ⟨_, rfl⟩
  obtain ⟨wa, hwa⟩ : ∃ wa, w.alloc (.cells #[.string m1, .string m2] 33) = wa := ⟨_, rfl⟩
  have hba : wa.heap[M]? = some (.cells #[.string m1, .string m2] 33 (0, 0)) := by rw [← hwa, ← hM]; exact heap_alloc_new w _
  have hsa : wa.heap.size = M + 1 := by rw [← hwa, World.size_alloc, hM]
  obtain ⟨a, cap, rfl, _⟩ := id hx
  obtain ⟨N, hN⟩ : ∃ N, W.length = N := ⟨_, rfl⟩
  rw [hN] at hx ⊢
  have hadd : (9223372036854775807 < m1.size + m2.size) = False := by simp at hm ⊢; omega
  have c0 : wa.drew.cell? ⟨M, 0, none⟩ = some (.string m1) := by rw [cell_of_row wa.drew M _ _ 33 (0, 0) hba]; rfl
  have c1 : wa.drew.cell? ⟨M, 1, none⟩ = some (.string m2) := by rw [cell_of_row wa.drew M _ _ 33 (0, 0) hba]; rfl
  obtain ⟨wd, hwd⟩ : ∃ wd, wa.drew = wd := ⟨_, rfl⟩
  have hsd : wd.heap.size = M + 1 := by rw [← hwd]; exact hsa
  have hbd : wd.heap[M]? = some (.cells #[.string m1, .string m2] 33 (0, 0)) := by rw [← hwd]; exact hba
  obtain ⟨B, hB⟩ : ∃ B, M + 1 = B := ⟨_, rfl⟩
  rw [hB] at hsd
  obtain ⟨wz, hwz⟩ : ∃ wz, wd.alloc (.cells #[.string ⟨#[]⟩, .string ⟨#[]⟩] 54) = wz := ⟨_, rfl⟩
  have hzb : wz.heap[M]? = some (.cells #[.string m1, .string m2] 33 (0, 0)) := by rw [← hwz, Below.heap_alloc _ _ _ (by omega)]; exact hbd
  have hz8 : wz.heap[B]? = some (.cells #[.string ⟨#[]⟩, .string ⟨#[]⟩] 54 (0, 0)) := by rw [← hwz, ← hsd]; exact heap_alloc_new _ _
  obtain ⟨z0, z1⟩ := two_cells hzb
  obtain ⟨p0, p1⟩ := two_cells hz8
  have f0 : wz.frozen? ⟨B, 0, none⟩ = false := Lib.frozen_of_heap hz8 _
  have f1 : wz.frozen? ⟨B, 1, none⟩ = false := Lib.frozen_of_heap hz8 _
  have hq8 := heap_setCell_at (heap_setCell_at hz8 (i := 0) (.string m1)) (i := 1) (.string m2)
  obtain ⟨wq, hwq⟩ : ∃ wq, (wz.setCell ⟨B, 0, none⟩ (.string m1)).setCell ⟨B, 1, none⟩ (.string m2) = wq := ⟨_, rfl⟩
  rw [hwq] at hq8
  have hqb : wq.heap[M]? = some (.cells #[.string m1, .string m2] 33 (0, 0)) := by
    rw [← hwq, Below.heap_setCell _ ⟨B, 1, none⟩ _ M (by show M ≠ B; omega), Below.heap_setCell _ ⟨B, 0, none⟩ _ M (by show M ≠ B; omega)]
    exact hzb
  obtain ⟨y0, y1⟩ := two_cells hqb
  rw [hwd] at c0 c1
  have HBQ : Hid (Below w.heap.size w wq) := Lib.hid (by
    have h1 : Below w.heap.size w wd := by rw [← hwd, ← hwa]; exact ((Below.refl _ w).alloc (Nat.le_refl _) _).drew
    have h2 : Below w.heap.size w wz := by rw [← hwz]; exact h1.alloc h1.size _
    rw [← hwq]
    exact (h2.setCell (p := ⟨B, 0, none⟩) (show w.heap.size ≤ B by omega) _).setCell (p := ⟨B, 1, none⟩) (show w.heap.size ≤ B by omega) _)
  have HQ8 := Lib.hid hq8
  have HQL : Hid (B < wq.heap.size) := Lib.hid (Array.getElem?_eq_some_iff.1 hq8).1
  have HN := Lib.hid hN
  have HLW : Hid (W.length ≤ 1000000) := Lib.hid hl
  have HFM : Hid (FitsM (m1, m2)) := Lib.hid (by simp only at hm; exact ⟨by unfold maxLen; simp only; omega, by unfold maxLen; simp only; omega⟩)
  have HFW : Hid (∀ i (h : i < W.length) j (h' : j < W.length), FitsM (W[i], W[j])) := Lib.hid fun i h j h' => ⟨by have := hsz W[i] (List.getElem_mem _); unfold maxLen; simp only; omega, by have := hsz W[j] (List.getElem_mem _); unfold maxLen; simp only; omega⟩
  have HAD := Lib.hid hadd
  have HX := Lib.hid hx
  clear hx hba hbd hzb hz8 hq8 hqb hsa hB hl hN hsz
  go_enter Try.func15, Try.ntmps15
  go_wp2_with fail
  go_region
  go_wp2_with fail
  clear c0 c1 hwz z0 z1 p0 p1 f0 f1 hwq y0 y1 hwa hwd hsd hM hadd
  obtain ⟨i0, hi, hz0, hz1, hz2⟩ := info_parts textE.info
  obtain ⟨w1, hmk, hown1, hg1⟩ := run_make_own (P := Try.prog) wq wq.heap.size 34 9 i0 _ 1 Try.underlying34 hi hz0 hz1 .i64 .i64 N (by rw [hz2]; show 16 * N ≤ _; have := HN.out; have := HLW.out; omega) (by unfold maxLen; have := HN.out; have := HLW.out; omega) (Nat.le_refl _)
  have HST : Hid (JnRel (m1, m2) W wq wq.heap.size (.slice (some ⟨wq.heap.size, 0, none⟩) 0 N) (.int .i64 ((0 : Nat) : Int)) w1) := Lib.hid ⟨0, [], rfl, Nat.zero_le _, by simp, Nat.le_refl _, hown1, (Below.refl _ wq).grown hg1 (Nat.le_refl _) (by simp)⟩
  have hNl : N ≤ 1000000 := by have := HN.out; have := HLW.out; omega
  replace hmk : (Instr.makeSlice 34 (.int .i64 0) (.int .i64 (N : Int))).run Try.prog wq = .ok (.slice (some ⟨wq.heap.size, 0, none⟩) 0 N) w1 := hmk
  clear hi hz0 hz1 hz2 hown1 hg1
  rw [hmk]
  go_wp2
  clear hmk
  go_loopw [7, 8] (fun v i wr => JnRel (m1, m2) W wq wq.heap.size v i wr) (fun _ i _ => N - (intOf i).toNat)
  case atStart => exact HST.out
  case round =>
    clear HST
    obtain ⟨k, O, rfl, hk, hO, hOl, ho, hbel⟩ := hrel
    have HO := Lib.hid ho; have HB := Lib.hid hbel; have HJ := Lib.hid hO; have HOL : Hid (O.length ≤ k) := Lib.hid hOl
    rw [HN.out] at hk
    have hq8 := (hbel.block B HQL.out).trans HQ8.out
    obtain ⟨b0, b1⟩ := two_cells hq8
    clear ho hbel hO hOl hq8
    by_cases hgo : k < N
    · have hgoI : (k : Int) < (N : Int) := by omega
      have hkW : k < W.length := by rw [HN.out]; exact hgo
      obtain ⟨j, hj⟩ : ∃ j : Nat, k + 1 = j := ⟨_, rfl⟩
      have HJK := Lib.hid hj
      have hwk : IntKind.i64.wrap ((k : Int) + 1) = (j : Int) := by rw [← hj]; exact IntWalk.i64_in _ (by omega)
      have hwj : IntKind.i64.wrap ((j : Int) + 1) = (j : Int) + 1 := IntWalk.i64_in _ (by omega)
      have hj0 : (0 : Int) ≤ (j : Int) := by omega
      clear hj
      obtain ⟨ad, rfl⟩ : ∃ ad, a = some ad := by
        obtain ⟨_, _, e1, hc⟩ := HX.out
        obtain ⟨ad, e2, _⟩ := hc k hkW
        exact ⟨ad, (Value.slice.inj e1).1.trans e2⟩
      have HWP : Hid (∀ j (h : j < W.length), ∀ W', Below wq.heap.size wq W' → W'.cell? (ad.add j) = some (.string W[j])) := Lib.hid fun j h W' hb' => by
        have h1 := HX.out
        rw [← HN.out] at h1
        exact txt_cell h1 (HBQ.out.trans (hb'.mono HBQ.out.size)) h
      obtain ⟨z, hz⟩ : ∃ z, W[k] = z := ⟨_, rfl⟩
      have c0 := HWP.out k hkW wr HB.out
      rw [hz] at c0
      have HZ := Lib.hid hz
      clear hz
      have HKP : Hid ((∀ h' : k + 1 < W.length, ¬ (z = m1 ∧ W[k + 1] = m2)) → O ++ [z] ++ joinT (m1, m2) (W.drop (k + 1)) = joinT (m1, m2) W) := Lib.hid fun hn => by
        have e := join_next (m := (m1, m2)) hkW (by rw [HZ.out]; exact hn)
        rw [← HJ.out, e, HZ.out]
        simp
      by_cases hlast : k + 1 < N
      · have hlastI : (j : Int) < (N : Int) := by have := HJK.out; omega
        have hkW1 : k + 1 < W.length := by rw [HN.out]; exact hlast
        obtain ⟨y, hy⟩ : ∃ y, W[k + 1] = y := ⟨_, rfl⟩
        have c1 := HWP.out (k + 1) hkW1 wr HB.out
        rw [hy, HJK.out] at c1
        have HY := Lib.hid hy
        clear hy
        by_cases heq : (m1, m2) = (z, y)
        · obtain ⟨rfl, rfl⟩ := Prod.mk.inj heq
          have HJP : Hid (O ++ [m1 ++ m2] ++ joinT (m1, m2) (W.drop (k + 2)) = joinT (m1, m2) W) := Lib.hid (by
            have e := join_pair (m := (m1, m2)) hkW1 HZ.out HY.out
            rw [← HJ.out, e]
            simp)
          have heql := fun w => couple_eql_yes HFM.out w
          clear heq
          go_wp2_with fail
          refine wp_region_quiet_lit (by kernel_rfl) (by kernel_rfl) ?_
          repeat (first | go_big_quiet_skip | quiet_step (fail))
          refine wpQuiet_nil ?_
          intro _ hqq
          obtain ⟨nq, hq2⟩ := hqq
          subst hq2
          have HB2 : Hid (Below wq.heap.size wq (wr.drewN nq)) := Lib.hid (below_drewN' HB.out nq)
          have HO2 : Hid (ownE textE (wr.drewN nq) wq.heap.size u7 O) := Lib.hid (HO.out.drewN nq)
          have c0q : (wr.drewN nq).cell? (ad.add k) = some (.string m1) := c0
          clear b0 b1 c0
          generalize wr.drewN nq = wz at *
          have HA : Hid (ownE textE (wz.alloc (.cells #[.string (m1 ++ m2)] 9)) wq.heap.size u7 O) := Lib.hid (HO2.out.alloc _)
          have HE : Hid (eltsAt textE (wz.alloc (.cells #[.string (m1 ++ m2)] 9)) (.slice (some ⟨wz.heap.size, 0, none⟩) 1 1) [m1 ++ m2]) := Lib.hid (one_elt textE wz _)
          have HZ2 : Hid (wq.heap.size ≤ (wz.alloc (.cells #[.string (m1 ++ m2)] 9)).heap.size) := Lib.hid (by rw [World.size_alloc]; have := HB2.out.size; omega)
          go_wp2_with (at_builtin; refine wpList_append_elts textE rfl (.tmp 47) (.tmp 49) rfl wq.heap.size u7 _ O [m1 ++ m2] rfl rfl HA.out HE.out (someNone _ _ _) (by have := HOL.out; simp; omega) HZ2.out ?_; intro r5 w5 hown5 hg5 _; have HO5 := Lib.hid hown5; have HG5 := Lib.hid hg5; clear hown5 hg5)
          go_roundw
          case measure => simp [intOf]; have := HJK.out; omega
          case rel => exact ⟨k + 2, O ++ [m1 ++ m2], by have := HJK.out; simp; omega, by rw [HN.out]; omega, HJP.out, by have := HOL.out; simp; omega, HO5.out, (HB2.out.alloc HB2.out.size _).grown HG5.out HZ2.out fun g e => (HO2.out.lt g e).1⟩
        · have HJP : Hid (O ++ [z] ++ joinT (m1, m2) (W.drop (k + 1)) = joinT (m1, m2) W) := Lib.hid (HKP.out fun h e => heq (by rw [← e.1, ← e.2, HY.out]))
          have heql := fun w => couple_eql_no HFM.out (by have := HFW.out k hkW (k + 1) hkW1; rw [HZ.out, HY.out] at this; exact this) heq w
          clear heq
          go_wp2_with fail
          refine wp_region_quiet_lit (by kernel_rfl) (by kernel_rfl) ?_
          repeat (first | go_big_quiet_skip | quiet_step (fail))
          refine wpQuiet_nil ?_
          intro _ hqq
          obtain ⟨nq, hq2⟩ := hqq
          subst hq2
          have HB2 : Hid (Below wq.heap.size wq (wr.drewN nq)) := Lib.hid (below_drewN' HB.out nq)
          have HO2 : Hid (ownE textE (wr.drewN nq) wq.heap.size u7 O) := Lib.hid (HO.out.drewN nq)
          have c0q : (wr.drewN nq).cell? (ad.add k) = some (.string z) := c0
          clear b0 b1 c0
          generalize wr.drewN nq = wz at *
          have HA : Hid (ownE textE (wz.alloc (.cells #[.string (z)] 9)) wq.heap.size u7 O) := Lib.hid (HO2.out.alloc _)
          have HE : Hid (eltsAt textE (wz.alloc (.cells #[.string (z)] 9)) (.slice (some ⟨wz.heap.size, 0, none⟩) 1 1) [z]) := Lib.hid (one_elt textE wz _)
          have HZ2 : Hid (wq.heap.size ≤ (wz.alloc (.cells #[.string (z)] 9)).heap.size) := Lib.hid (by rw [World.size_alloc]; have := HB2.out.size; omega)
          go_wp2_with (at_builtin; refine wpList_append_elts textE rfl (.tmp 53) (.tmp 58) rfl wq.heap.size u7 _ O [z] rfl rfl HA.out HE.out (someNone _ _ _) (by have := HOL.out; simp; omega) HZ2.out ?_; intro r5 w5 hown5 hg5 _; have HO5 := Lib.hid hown5; have HG5 := Lib.hid hg5; clear hown5 hg5)
          go_roundw
          case measure => simp [intOf]; have := HJK.out; omega
          case rel => exact ⟨k + 1, O ++ [z], by have := HJK.out; simp; omega, by rw [HN.out]; omega, HJP.out, by have := HOL.out; simp; omega, HO5.out, (HB2.out.alloc HB2.out.size _).grown HG5.out HZ2.out fun g e => (HO2.out.lt g e).1⟩
      · have hlastI : ¬ (j : Int) < (N : Int) := by have := HJK.out; omega
        have hdl : decide ((j : Int) < (N : Int)) = false := decide_eq_false hlastI
        have hdn : decide (j < N) = false := decide_eq_false (by have := HJK.out; omega)
        have HJP : Hid (O ++ [z] ++ joinT (m1, m2) (W.drop (k + 1)) = joinT (m1, m2) W) := Lib.hid (HKP.out fun h e => hlast (by rw [← HN.out]; exact h))
        go_wp2_with fail
        refine wp_region_quiet_lit (by kernel_rfl) (by kernel_rfl) ?_
        repeat (first | go_big_quiet_skip | quiet_step (fail))
        refine wpQuiet_nil ?_
        intro _ hqq
        obtain ⟨nq, hq2⟩ := hqq
        subst hq2
        have HB2 : Hid (Below wq.heap.size wq (wr.drewN nq)) := Lib.hid (below_drewN' HB.out nq)
        have HO2 : Hid (ownE textE (wr.drewN nq) wq.heap.size u7 O) := Lib.hid (HO.out.drewN nq)
        have c0q : (wr.drewN nq).cell? (ad.add k) = some (.string z) := c0
        clear b0 b1 c0
        generalize wr.drewN nq = wz at *
        have HA : Hid (ownE textE (wz.alloc (.cells #[.string (z)] 9)) wq.heap.size u7 O) := Lib.hid (HO2.out.alloc _)
        have HE : Hid (eltsAt textE (wz.alloc (.cells #[.string (z)] 9)) (.slice (some ⟨wz.heap.size, 0, none⟩) 1 1) [z]) := Lib.hid (one_elt textE wz _)
        have HZ2 : Hid (wq.heap.size ≤ (wz.alloc (.cells #[.string (z)] 9)).heap.size) := Lib.hid (by rw [World.size_alloc]; have := HB2.out.size; omega)
        go_wp2_with (at_builtin; refine wpList_append_elts textE rfl (.tmp 53) (.tmp 58) rfl wq.heap.size u7 _ O [z] rfl rfl HA.out HE.out (someNone _ _ _) (by have := HOL.out; simp; omega) HZ2.out ?_; intro r5 w5 hown5 hg5 _; have HO5 := Lib.hid hown5; have HG5 := Lib.hid hg5; clear hown5 hg5)
        go_roundw
        case measure => simp [intOf]; have := HJK.out; omega
        case rel => exact ⟨k + 1, O ++ [z], by have := HJK.out; simp; omega, by rw [HN.out]; omega, HJP.out, by have := HOL.out; simp; omega, HO5.out, (HB2.out.alloc HB2.out.size _).grown HG5.out HZ2.out fun g e => (HO2.out.lt g e).1⟩
    · have hgoI : ¬ (k : Int) < (N : Int) := by omega
      have HD : Hid (O = joinT (m1, m2) W) := Lib.hid (by
        have h1 := HJ.out
        rw [List.drop_of_length_le (by rw [HN.out]; omega)] at h1
        simpa [joinT] using h1)
      go_wp2
      go_ret
      exact ⟨_, rfl, by rw [← HD.out]; exact HO.out.mono HBQ.out.size, HBQ.out.trans (HB.out.mono HBQ.out.size)⟩
end Go.Proofs.Ytbacbgpemaldbaa
