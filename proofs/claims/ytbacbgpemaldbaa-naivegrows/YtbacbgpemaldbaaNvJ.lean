/- The document's own Join, walked. -/
import Derived.Test.YtbacbgpemaldbaaNvT
namespace Go.Proofs.Ytbacbgpemaldbaa
open Go.RowKit

set_option maxRecDepth 100000 in
theorem size_app (a b : ByteArray) : (a ++ b).size = a.size + b.size := by simp
set_option maxRecDepth 100000 in
set_option maxHeartbeats 4000000 in
theorem rjoin_any (m : Mg) (x : Value) (W : List ByteArray) (w : World) (hx : eltsAt textE w x W) (hl : W.length ≤ 1000000) (hm : m.1.size + m.2.size ≤ 1000000) :
    Calls Try.prog 16 #[x, .agg #[.string m.1, .string m.2]] w fun e w' => JnRet m W w e w' := by
  obtain ⟨m1, m2⟩ := m
  obtain ⟨M, hM⟩ : ∃ M, w.heap.size = M := ⟨_, rfl⟩
  obtain ⟨wa, hwa⟩ : ∃ wa, w.alloc (.cells #[.string m1, .string m2] 33) = wa := ⟨_, rfl⟩
  have hba : wa.heap[M]? = some (.cells #[.string m1, .string m2] 33 (0, 0)) := by rw [← hwa, ← hM]; exact heap_alloc_new w _
  have hbe : Below w.heap.size w wa := by rw [← hwa]; exact (Below.refl _ w).alloc (Nat.le_refl _) _
  obtain ⟨a, cap, rfl, _⟩ := id hx
  obtain ⟨N, hN⟩ : ∃ N, W.length = N := ⟨_, rfl⟩
  have hxa := hx.below hbe (Nat.le_refl _)
  rw [hN] at hxa ⊢
  have hsz : wa.heap.size = M + 1 := by rw [← hwa, World.size_alloc, hM]
  have HX := Lib.hid hxa
  have HBA := Lib.hid hba
  have HBE := Lib.hid hbe
  have HN := Lib.hid hN
  have HSZ := Lib.hid hsz
  have HM := Lib.hid hM
  have hNl : N ≤ 1000000 := by omega
  have HST : Hid (JnRel (m1, m2) W wa wa.heap.size (.slice none 0 0) (.int .i64 ((0 : Nat) : Int)) wa) := Lib.hid ⟨0, [], rfl, Nat.zero_le _, by simp, Nat.le_refl _, ownE.nil _ _, Below.refl _ _⟩
  clear hx hxa hba hbe hN hsz
  go_enter Try.func16, Try.ntmps16
  go_wp2
  go_loopw [5, 6] (fun v i wr => JnRel (m1, m2) W wa wa.heap.size v i wr) (fun _ i _ => N - (intOf i).toNat)
  case atStart => exact HST.out
  case round =>
    clear HST hwa hM
    obtain ⟨k, O, rfl, hk, hO, hOl, ho, hbel⟩ := hrel
    have HO := Lib.hid ho; have HB := Lib.hid hbel; have HJ := Lib.hid hO; have HOL : Hid (O.length ≤ k) := Lib.hid hOl
    have HWP : Hid (∀ j (h : j < W.length), ∀ ad, a = some ad → ∀ W', Below wa.heap.size wa W' → W'.cell? (ad.add j) = some (.string W[j])) := Lib.hid fun j h ad e W' hb' => by
      subst e
      have h1 := HX.out
      rw [← HN.out] at h1
      exact txt_cell h1 hb' h
    have hmb := (hbel.block M (by rw [HSZ.out]; omega)).trans HBA.out
    have b0 : wr.cell? ⟨M, 0, none⟩ = some (.string m1) := by rw [cell_of_row wr M _ _ 33 (0, 0) hmb]; rfl
    have b1 : wr.cell? ⟨M, 1, none⟩ = some (.string m2) := by rw [cell_of_row wr M _ _ 33 (0, 0) hmb]; rfl
    rw [HN.out] at hk
    clear ho hbel hO hOl hmb
    by_cases hgo : k < N
    · have hgoI : (k : Int) < (N : Int) := by omega
      have hkW : k < W.length := by rw [HN.out]; exact hgo
      obtain ⟨j, hj⟩ : ∃ j : Nat, k + 1 = j := ⟨_, rfl⟩
      have HJK := Lib.hid hj
      have hwk : IntKind.i64.wrap ((k : Int) + 1) = (j : Int) := by rw [← hj]; exact IntWalk.i64_in _ (by omega)
      have hj0 : (0 : Int) ≤ (j : Int) := by omega
      clear hj
      have hwk2 : IntKind.i64.wrap ((k : Int) + 2) = (k : Int) + 2 := IntWalk.i64_in _ (by omega)
      obtain ⟨ad, rfl⟩ : ∃ ad, a = some ad := by
        obtain ⟨_, _, e1, hc⟩ := HX.out
        obtain ⟨ad, e2, _⟩ := hc k hkW
        exact ⟨ad, (Value.slice.inj e1).1.trans e2⟩
      obtain ⟨z, hz⟩ : ∃ z, W[k] = z := ⟨_, rfl⟩
      have c0 := HWP.out k hkW ad rfl wr HB.out
      rw [hz] at c0
      have HZ := Lib.hid hz
      clear hz
      have hD1 : ∀ o : Obj, Below wa.heap.size wa (wr.alloc o) := fun o => HB.out.alloc HB.out.size _
      have HSIZ : Hid (wa.heap.size ≤ wr.heap.size) := Lib.hid HB.out.size
      have keep : (∀ h' : k + 1 < W.length, ¬ (z = m1 ∧ W[k + 1] = m2)) → O ++ [z] ++ joinT (m1, m2) (W.drop (k + 1)) = joinT (m1, m2) W := fun hn => by
        have e := join_next (m := (m1, m2)) hkW (by rw [HZ.out]; exact hn)
        rw [← HJ.out, e, HZ.out]
        simp
      have HKP := Lib.hid keep
      clear keep
      by_cases hlast : k + 1 < N
      · have hlastI : (j : Int) < (N : Int) := by have := HJK.out; omega
        have hkW1 : k + 1 < W.length := by rw [HN.out]; exact hlast
        obtain ⟨y, hy⟩ : ∃ y, W[k + 1] = y := ⟨_, rfl⟩
        have c1 := HWP.out (k + 1) hkW1 ad rfl wr HB.out
        rw [hy, HJK.out] at c1
        have HY := Lib.hid hy
        clear hy
        by_cases e1 : z = m1
        · subst e1
          by_cases e2 : y = m2
          · subst e2
            have HJP : Hid (O ++ [z ++ y] ++ joinT (z, y) (W.drop (k + 2)) = joinT (z, y) W) := Lib.hid (by
              have e := join_pair (m := (z, y)) hkW1 HZ.out HY.out
              rw [← HJ.out, e]
              simp)
            go_wp2_with fail
            refine wp_region_quiet_lit (by kernel_rfl) (by kernel_rfl) ?_
            repeat (first | go_big_quiet_skip | quiet_step (fail))
            refine wpQuiet_nil ?_
            intro _ hqq
            obtain ⟨nq, hq2⟩ := hqq
            subst hq2
            have HB2 : Hid (Below wa.heap.size wa (wr.drewN nq)) := Lib.hid (below_drewN' HB.out nq)
            have HO2 : Hid (ownE textE (wr.drewN nq) wa.heap.size u5 O) := Lib.hid (HO.out.drewN nq)
            have c0q : (wr.drewN nq).cell? (ad.add k) = some (.string z) := c0
            have b0q : (wr.drewN nq).cell? ⟨M, 0, none⟩ = some (.string z) := b0
            have b1q : (wr.drewN nq).cell? ⟨M, 1, none⟩ = some (.string y) := b1
            clear b0 b1 c0
            generalize wr.drewN nq = wz at *
            have HA : Hid (ownE textE (wz.alloc (.cells #[.string (z ++ y)] 9)) wa.heap.size u5 O) := Lib.hid (HO2.out.alloc _)
            have HE : Hid (eltsAt textE (wz.alloc (.cells #[.string (z ++ y)] 9)) (.slice (some ⟨wz.heap.size, 0, none⟩) 1 1) [z ++ y]) := Lib.hid (one_elt textE wz _)
            have HZ2 : Hid (wa.heap.size ≤ (wz.alloc (.cells #[.string (z ++ y)] 9)).heap.size) := Lib.hid (by rw [World.size_alloc]; have := HB2.out.size; omega)
            go_wp2_with (at_builtin; refine wpList_append_elts textE rfl (.tmp 35) (.tmp 41) rfl wa.heap.size u5 _ O [z ++ y] rfl rfl HA.out HE.out (someNone _ _ _) (by have := HOL.out; simp; omega) HZ2.out ?_; intro r5 w5 hown5 hg5 _; have HO5 := Lib.hid hown5; have HG5 := Lib.hid hg5; clear hown5 hg5)
            go_roundw
            case measure => simp [intOf]; have := HJK.out; omega
            case rel => exact ⟨k + 2, O ++ [z ++ y], by simp, by rw [HN.out]; omega, HJP.out, by have := HOL.out; simp; omega, HO5.out, (HB2.out.alloc HB2.out.size _).grown HG5.out HZ2.out fun g e => (HO2.out.lt g e).1⟩
          · have hne := text_ne e2
            have HJP : Hid (O ++ [z] ++ joinT (z, m2) (W.drop (k + 1)) = joinT (z, m2) W) := Lib.hid (HKP.out fun h e => e2 (by rw [← HY.out]; exact e.2))
            go_wp2_with fail
            refine wp_region_quiet_lit (by kernel_rfl) (by kernel_rfl) ?_
            repeat (first | go_big_quiet_skip | quiet_step (fail))
            refine wpQuiet_nil ?_
            intro _ hqq
            obtain ⟨nq, hq2⟩ := hqq
            subst hq2
            have HB2 : Hid (Below wa.heap.size wa (wr.drewN nq)) := Lib.hid (below_drewN' HB.out nq)
            have HO2 : Hid (ownE textE (wr.drewN nq) wa.heap.size u5 O) := Lib.hid (HO.out.drewN nq)
            have c0q : (wr.drewN nq).cell? (ad.add k) = some (.string z) := c0
            have b0q : (wr.drewN nq).cell? ⟨M, 0, none⟩ = some (.string z) := b0
            have b1q : (wr.drewN nq).cell? ⟨M, 1, none⟩ = some (.string m2) := b1
            clear b0 b1 c0
            generalize wr.drewN nq = wz at *
            have HA : Hid (ownE textE (wz.alloc (.cells #[.string (z)] 9)) wa.heap.size u5 O) := Lib.hid (HO2.out.alloc _)
            have HE : Hid (eltsAt textE (wz.alloc (.cells #[.string (z)] 9)) (.slice (some ⟨wz.heap.size, 0, none⟩) 1 1) [z]) := Lib.hid (one_elt textE wz _)
            have HZ2 : Hid (wa.heap.size ≤ (wz.alloc (.cells #[.string (z)] 9)).heap.size) := Lib.hid (by rw [World.size_alloc]; have := HB2.out.size; omega)
            go_wp2_with (at_builtin; refine wpList_append_elts textE rfl (.tmp 45) (.tmp 50) rfl wa.heap.size u5 _ O [z] rfl rfl HA.out HE.out (someNone _ _ _) (by have := HOL.out; simp; omega) HZ2.out ?_; intro r5 w5 hown5 hg5 _; have HO5 := Lib.hid hown5; have HG5 := Lib.hid hg5; clear hown5 hg5)
            go_roundw
            case measure => simp [intOf]; have := HJK.out; omega
            case rel => exact ⟨k + 1, O ++ [z], by rw [HJK.out], by rw [HN.out]; omega, HJP.out, by have := HOL.out; simp; omega, HO5.out, (HB2.out.alloc HB2.out.size _).grown HG5.out HZ2.out fun g e => (HO2.out.lt g e).1⟩
        · have hne := text_ne e1
          have HJP : Hid (O ++ [z] ++ joinT (m1, m2) (W.drop (k + 1)) = joinT (m1, m2) W) := Lib.hid (HKP.out fun h e => e1 e.1)
          go_wp2_with fail
          refine wp_region_quiet_lit (by kernel_rfl) (by kernel_rfl) ?_
          repeat (first | go_big_quiet_skip | quiet_step (fail))
          refine wpQuiet_nil ?_
          intro _ hqq
          obtain ⟨nq, hq2⟩ := hqq
          subst hq2
          have HB2 : Hid (Below wa.heap.size wa (wr.drewN nq)) := Lib.hid (below_drewN' HB.out nq)
          have HO2 : Hid (ownE textE (wr.drewN nq) wa.heap.size u5 O) := Lib.hid (HO.out.drewN nq)
          have c0q : (wr.drewN nq).cell? (ad.add k) = some (.string z) := c0
          have b0q : (wr.drewN nq).cell? ⟨M, 0, none⟩ = some (.string m1) := b0
          have b1q : (wr.drewN nq).cell? ⟨M, 1, none⟩ = some (.string m2) := b1
          clear b0 b1 c0
          generalize wr.drewN nq = wz at *
          have HA : Hid (ownE textE (wz.alloc (.cells #[.string (z)] 9)) wa.heap.size u5 O) := Lib.hid (HO2.out.alloc _)
          have HE : Hid (eltsAt textE (wz.alloc (.cells #[.string (z)] 9)) (.slice (some ⟨wz.heap.size, 0, none⟩) 1 1) [z]) := Lib.hid (one_elt textE wz _)
          have HZ2 : Hid (wa.heap.size ≤ (wz.alloc (.cells #[.string (z)] 9)).heap.size) := Lib.hid (by rw [World.size_alloc]; have := HB2.out.size; omega)
          go_wp2_with (at_builtin; refine wpList_append_elts textE rfl (.tmp 45) (.tmp 50) rfl wa.heap.size u5 _ O [z] rfl rfl HA.out HE.out (someNone _ _ _) (by have := HOL.out; simp; omega) HZ2.out ?_; intro r5 w5 hown5 hg5 _; have HO5 := Lib.hid hown5; have HG5 := Lib.hid hg5; clear hown5 hg5)
          go_roundw
          case measure => simp [intOf]; have := HJK.out; omega
          case rel => exact ⟨k + 1, O ++ [z], by rw [HJK.out], by rw [HN.out]; omega, HJP.out, by have := HOL.out; simp; omega, HO5.out, (HB2.out.alloc HB2.out.size _).grown HG5.out HZ2.out fun g e => (HO2.out.lt g e).1⟩
      · have hlastI : ¬ (j : Int) < (N : Int) := by have := HJK.out; omega
        have hdl : decide ((j : Int) < (N : Int)) = false := decide_eq_false hlastI
        have hdn : decide (j < N) = false := decide_eq_false (by omega)
        have HJP : Hid (O ++ [z] ++ joinT (m1, m2) (W.drop (k + 1)) = joinT (m1, m2) W) := Lib.hid (HKP.out fun h e => hlast (by rw [← HN.out]; exact h))
        go_wp2_with fail
        refine wp_region_quiet_lit (by kernel_rfl) (by kernel_rfl) ?_
        repeat (first | go_big_quiet_skip | quiet_step (fail))
        refine wpQuiet_nil ?_
        intro _ hqq
        obtain ⟨nq, hq2⟩ := hqq
        subst hq2
        have HB2 : Hid (Below wa.heap.size wa (wr.drewN nq)) := Lib.hid (below_drewN' HB.out nq)
        have HO2 : Hid (ownE textE (wr.drewN nq) wa.heap.size u5 O) := Lib.hid (HO.out.drewN nq)
        have c0q : (wr.drewN nq).cell? (ad.add k) = some (.string z) := c0
        have b0q : (wr.drewN nq).cell? ⟨M, 0, none⟩ = some (.string m1) := b0
        have b1q : (wr.drewN nq).cell? ⟨M, 1, none⟩ = some (.string m2) := b1
        clear b0 b1 c0
        generalize wr.drewN nq = wz at *
        have HA : Hid (ownE textE (wz.alloc (.cells #[.string (z)] 9)) wa.heap.size u5 O) := Lib.hid (HO2.out.alloc _)
        have HE : Hid (eltsAt textE (wz.alloc (.cells #[.string (z)] 9)) (.slice (some ⟨wz.heap.size, 0, none⟩) 1 1) [z]) := Lib.hid (one_elt textE wz _)
        have HZ2 : Hid (wa.heap.size ≤ (wz.alloc (.cells #[.string (z)] 9)).heap.size) := Lib.hid (by rw [World.size_alloc]; have := HB2.out.size; omega)
        go_wp2_with (at_builtin; refine wpList_append_elts textE rfl (.tmp 45) (.tmp 50) rfl wa.heap.size u5 _ O [z] rfl rfl HA.out HE.out (someNone _ _ _) (by have := HOL.out; simp; omega) HZ2.out ?_; intro r5 w5 hown5 hg5 _; have HO5 := Lib.hid hown5; have HG5 := Lib.hid hg5; clear hown5 hg5)
        go_roundw
        case measure => simp [intOf]; have := HJK.out; omega
        case rel => exact ⟨k + 1, O ++ [z], by rw [HJK.out], by rw [HN.out]; omega, HJP.out, by have := HOL.out; simp; omega, HO5.out, (HB2.out.alloc HB2.out.size _).grown HG5.out HZ2.out fun g e => (HO2.out.lt g e).1⟩
    · have hgoI : ¬ (k : Int) < (N : Int) := by omega
      have HD : Hid (O = joinT (m1, m2) W) := Lib.hid (by
        have h1 := HJ.out
        rw [List.drop_of_length_le (by rw [HN.out]; omega)] at h1
        simpa [joinT] using h1)
      go_wp2
      go_ret
      exact ⟨_, rfl, by rw [← HD.out]; exact HO.out.mono HBE.out.size, HBE.out.trans (HB.out.mono HBE.out.size)⟩
end Go.Proofs.Ytbacbgpemaldbaa
