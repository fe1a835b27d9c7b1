/- The walk of SymPlays. -/
import Derived.Test.YtgjailjnnbpbdaaBoth
namespace Go.Proofs.Ytgjailjnnbpbdaa
open Go.RowKit Go.Maps

def PlayRel (l : List (Int × Int)) (w : World) (K K2 : Nat) (i : Value) (wr : World) : Prop := ∃ (k : Nat) (J : List Joint), i = .int .i64 (k : Int) ∧ k ≤ l.length ∧ J.length ≤ k ∧ Both w K K2 J J wr
theorem both_new {w w1 w2 w3 : World} (hb : Below w.heap.size w w1) (h2 : w2 = w1.alloc (.cells #[.slice none 0 0, .map none] 54)) {v p : Value} (h3 : Rtab w3 w2.heap.size w2.heap.size v p []) (hb3 : Below w2.heap.size w2 w3) : Both w w1.heap.size w2.heap.size [] [] w3 := by
  have hs := hb.size
  have hs2 : w2.heap.size = w1.heap.size + 1 := by rw [h2, World.size_alloc]
  have hb2 : Below w.heap.size w w2 := by rw [h2]; exact hb.alloc hs _
  refine ⟨_, _, v, p, (show Stab w2 w1.heap.size (.slice none 0 0) none [] by rw [h2]; exact new_stab w1).below hb3, ?_, ⟨h3.cells, by omega, h3.texts.mono (by omega), h3.pairs.mono (by omega)⟩, hb2.trans (hb3.mono (by omega))⟩
  rintro k (e | e | e)
  · omega
  · cases e
  · cases e
set_option maxRecDepth 100000 in
set_option maxHeartbeats 8000000 in
theorem symPlays_walk (v : Value) (id : Int) (text : ByteArray) (w : World) (l : List (Int × Int)) (hv : eltsAt pairE w v l) (hL : l.length ≤ maxLen) (hf : FitsP l) (wi : (Lit.int .i64 id).wf = true) (ht : text.size ≤ maxLen) :
    Calls Try.prog 3 #[v, .int .i64 id, .string text] w fun e w' => e = .returned (.bool true) ∧ Below w.heap.size w w' := by
  obtain ⟨i0, i1⟩ := bounds_i64 wi
  have HV := Lib.hid hv
  obtain ⟨ar, cap, rfl, hc⟩ := hv
  have HC := Lib.hid hc
  have HF := Lib.hid hf
  clear hc hf wi
  unfold maxLen at hL ht
  go_enter Try.func3, Try.ntmps3
  go_wp2_with fail
  refine (awake_any _).mono ?_
  rintro e w1 ⟨rfl, hb1⟩
  have HB1 := Lib.hid hb1
  clear hb1
  by_cases hl : 100 < l.length
  · have hlI : (100 : Int) < (l.length : Int) := by omega
    go_wp2
    go_ret
    exact ⟨rfl, HB1.out⟩
  have hlI : ¬ (100 : Int) < (l.length : Int) := by omega
  by_cases htx : 1000 < text.size
  · have htI : (1000 : Int) < (text.size : Int) := by omega
    go_wp2
    go_ret
    exact ⟨rfl, HB1.out⟩
  have htI : ¬ (1000 : Int) < (text.size : Int) := by omega
  go_wp2_with fail
  refine (snew_any _).mono ?_
  rintro e w2 ⟨rfl, hw2⟩
  have HW2 := Lib.hid hw2
  clear hw2
  go_wp2_with fail
  refine (rnew_any _).mono ?_
  rintro e w3 ⟨v3, p3, rfl, hr3, hb3⟩
  have HO : Hid (Both w w1.heap.size w2.heap.size [] [] w3) := Lib.hid (both_new HB1.out HW2.out hr3 hb3)
  clear HW2 hr3 hb3
  obtain ⟨K, hK⟩ : ∃ K, w1.heap.size = K := ⟨_, rfl⟩
  obtain ⟨K2, hK2⟩ : ∃ K2, w2.heap.size = K2 := ⟨_, rfl⟩
  rw [hK, hK2] at HO
  rw [hK, hK2]
  clear hK hK2
  go_wp2
  go_loopw [9] (fun i wr => PlayRel l w K K2 i wr) (fun i _ => l.length + 1 - (intOf i).toNat)
  case atStart => exact ⟨0, [], rfl, by omega, by simp, HO.out⟩
  case round =>
    obtain ⟨k, J, rfl, hk, hlJ, hown⟩ := hrel
    have HO2 := Lib.hid hown
    have HG := Lib.hid hown.good
    clear hown
    by_cases hgo : k < l.length
    · have hkI : (k : Int) < (l.length : Int) := by omega
      obtain ⟨ad, rfl, _⟩ := HC.out k hgo
      obtain ⟨c0, c1⟩ := pairs_at HV.out HO2.out.bel hgo
      obtain ⟨⟨f1, f2⟩, f3, f4⟩ := HF.out _ (List.getElem_mem hgo)
      obtain ⟨⟨p, q⟩, hp⟩ : ∃ p, l[k] = p := ⟨_, rfl⟩
      rw [hp] at c0 c1 f1 f2 f3 f4
      have HP := Lib.hid hp
      clear hp
      go_wp2
      go_region_held3 (fun w' => w'.cell? (ad.add (k * 2)) = some (.int .i64 p) ∧ w'.cell? ⟨(ad.add (k * 2)).block, (ad.add (k * 2)).off + 1, none⟩ = some (.int .i64 q)) (first | exact ⟨c0, c1⟩ | exact ⟨c5, d5⟩) (first | (go_at_call 9; refine (joinB HO2.out.drew (by omega) f1 f2 f3 f4).mono ?_; rintro e w5 ⟨rfl, ho5⟩; have HO5 := Lib.hid ho5; clear ho5; obtain ⟨c5, d5⟩ := pairs_at HV.out HO5.out.bel hgo; rw [HP.out] at c5 d5))
      clear c0 c1
      go_wp2
      go_region_held3 (fun w' => w'.cell? (ad.add (k * 2)) = some (.int .i64 p) ∧ w'.cell? ⟨(ad.add (k * 2)).block, (ad.add (k * 2)).off + 1, none⟩ = some (.int .i64 q)) (first | exact ⟨c5, d5⟩ | exact ⟨c6, d6⟩) (first | (go_at_call 10; refine (rjoinB HO5.out.drew HG.out (by omega) p q).mono ?_; rintro e w6 ⟨rfl, ho6⟩; have HO6 := Lib.hid ho6; clear ho6; obtain ⟨c6, d6⟩ := pairs_at HV.out HO6.out.bel hgo; rw [HP.out] at c6 d6))
      have hln := join_len J p q
      have HJ : Hid ((joinOf J p q).1.2 = 0 → (joinOf J p q).1.1 = ((256 + J.length : Nat) : Int) ∧ thereOf (joinOf J p q).2 (joinOf J p q).1.1 = true) := Lib.hid fun h => join_ok h
      clear c5 d5 c6 d6
      obtain ⟨⟨⟨z, er⟩, J'⟩, hj⟩ : ∃ r, joinOf J p q = r := ⟨_, rfl⟩
      rw [hj] at HO6 hln HJ
      simp only [hj]
      clear hj
      simp only at hln
      replace HO6 : Hid (Both w K K2 J' J' w6) := HO6
      have hlJ' : J'.length ≤ k + 1 := by omega
      have cL := fun m => lenB (HO6.out.drewN m) (by omega)
      obtain ⟨g, cap2, x0, hx⟩ := HO6.out.texts
      have HX := Lib.hid hx
      obtain ⟨n, hn⟩ : ∃ n, 256 + J'.length = n := ⟨_, rfl⟩
      rw [hn] at cL x0 HX
      have HN := Lib.hid hn
      have hnb : (n : Int) ≤ 1000000 := by omega
      clear hx hn
      go_wp2
      go_quiet ((go_at_call 11; exact Calls.quiet_of_same (cL _)))
      have HO7 := Lib.hid (HO6.out.drewN nq)
      have x7 : (w6.drewN nq).cell? ⟨K2, 0, none⟩ = some (.slice (some ⟨g, 0, none⟩) n cap2) := x0
      have HX7 : Hid (∀ i : Nat, i < n → (w6.drewN nq).cell? ⟨g, i, none⟩ = some (.string (txtOf J' (i : Int)))) := Lib.hid HX.out
      generalize w6.drewN nq = w7 at *
      clear x0 HX cL
      by_cases he : er = 0
      · subst he
        obtain ⟨e1, e2⟩ := HJ.out rfl
        obtain ⟨m, hm⟩ : ∃ m, 256 + J.length = m := ⟨_, rfl⟩
        rw [hm] at e1
        subst e1
        have hmn : m < n := by
          obtain ⟨_, e3⟩ := there_iff.1 e2
          rw [texts_len, HN.out] at e3
          simpa using e3
        have hmI : (m : Int) < (n : Int) := by omega
        have hm0 : (0 : Int) ≤ (m : Int) := by omega
        have y0 := HX7.out m hmn
        clear e2 hm
        generalize txtOf J' (m : Int) = s at *
        by_cases hs : 5000 < s.size
        · have hsI : (5000 : Int) < (s.size : Int) := by omega
          go_wp2
          go_ret
          exact ⟨rfl, HO7.out.bel⟩
        · have hsI : ¬ (5000 : Int) < (s.size : Int) := by omega
          go_wp2
          go_roundw
          case rel => exact ⟨k + 1, J', by simp, hgo, by omega, HO7.out⟩
          case measure => simp [intOf]; omega
      · go_wp2
        go_roundw
        case rel => exact ⟨k + 1, J', by simp, hgo, by omega, HO7.out⟩
        case measure => simp [intOf]; omega
    · have hkI : ¬ (k : Int) < (l.length : Int) := by omega
      have cT := textB HO2.out (by omega) i0 i1
      have cF := fun w6 (ho : Both w K K2 J J w6) => findB ho (s := text) (by omega)
      have cR := fun w6 (ho : Both w K K2 J J w6) => rfindB ho (by omega) text
      have cP := fun w6 (ho : Both w K K2 J J w6) => pairB ho (by omega) i0 i1
      have cH := fun w6 (ho : Both w K K2 J J w6) => rthereB ho id
      have cM := fun w6 (ho : Both w K K2 J J w6) => mergesB ho (by omega)
      have cN := fun w6 (ho : Both w K K2 J J w6) => rmergesB ho HG.out (by omega)
      obtain ⟨⟨fz, fb⟩, hfd⟩ : ∃ r, findOf J text = r := ⟨_, rfl⟩
      rw [hfd] at cF cR
      clear hfd
      have HML : Hid ((mergesOf J).length ≤ 9223372036854775807) := Lib.hid (by rw [merges_len]; omega)
      cases hti : thereOf J id with
      | false =>
        rw [joint_low (.inr hti)] at cP
        rw [txt_not hti, hti] at cT
        rw [hti] at cH
        unfold noText at cT
        unfold pairV at cP
        clear hti
        by_cases h256 : 256 ≤ id
        all_goals (
          go_wp2_with fail
          refine cT.mono ?_
          rintro e w6 ⟨rfl, ho⟩
          have cF := cF w6 ho
          have cR := cR w6 ho
          have cP := cP w6 ho
          clear ho cT
          go_wp2_with fail
          refine cF.mono ?_
          rintro e w7 ⟨rfl, hw7⟩
          subst hw7
          clear cF
          go_wp2_with fail
          refine cR.mono ?_
          rintro e w7 ⟨rfl, hw7⟩
          subst hw7
          clear cR
          go_wp2_with fail
          refine cP.mono ?_
          rintro e w8 ⟨rfl, ho⟩
          have HB8 : Hid (Below w8.heap.size w8 (w8.alloc (.cells #[.int .i64 0, .int .i64 0] 32))) := Lib.hid ((Below.refl _ w8).alloc (Nat.le_refl _) _)
          have HO8 := Lib.hid (ho.below HB8.out)
          clear ho cP
          have cH8 := cH _ HO8.out
          have cM8 := cM _ HO8.out
          go_wp2_with fail
          refine cH8.mono ?_
          rintro e w9 ⟨rfl, hw9⟩
          subst hw9
          clear cH8
          go_wp2_with fail
          refine cM8.mono ?_
          rintro e w9 ⟨r9, rfl, ho9, hb9⟩
          have HO9 := Lib.hid (HO8.out.below hb9)
          have HB9 := Lib.hid hb9
          have HM9 := Lib.hid ho9
          have cN9 := cN _ HO9.out
          clear ho9 hb9 cM8
          go_wp2_with fail
          refine cN9.mono ?_
          rintro e w10 ⟨r10, rfl, ho10, hb10⟩
          have HO10 := Lib.hid (HO9.out.below hb10)
          have HB10 := Lib.hid (HB9.out.trans (hb10.mono HB9.out.size))
          have cS := msame_true r9 r10 (mergesOf J) w10 (HM9.out.below hb10).reads ho10.reads HML.out
          clear ho10 hb10 cN9
          go_wp2_with fail
          refine cS.mono ?_
          rintro e w11 ⟨rfl, hb11⟩
          have HO11 := Lib.hid (HO10.out.below hb11)
          obtain ⟨z0, z1⟩ := pbox_at (HB10.out.trans (hb11.mono HB10.out.size))
          have cH11 := cH _ HO11.out
          clear hb11 cS
          go_wp2_with (go_at_call 16; refine cH11.mono ?_; rintro e w12 ⟨rfl, hw12⟩; subst hw12)
          go_quiet (fail)
          go_wp2
          go_ret
          exact ⟨rfl, below_drewN' HO11.out.bel _⟩)
      | true =>
        obtain ⟨t0, t1⟩ := there_iff.1 hti
        rw [texts_len] at t1
        obtain ⟨i, hi⟩ : ∃ i : Nat, id = (i : Int) := ⟨id.toNat, by omega⟩
        subst hi
        have hi1 : i < 256 + J.length := by simpa using t1
        by_cases h256 : 256 ≤ (i : Int)
        · obtain ⟨k2, hk2⟩ : ∃ k2 : Nat, (i : Int) - 256 = (k2 : Int) := ⟨i - 256, by omega⟩
          have hkJ : k2 < J.length := by omega
          rw [joint_yes hkJ (by omega)] at cP
          obtain ⟨⟨jt, p, q⟩, hj⟩ : ∃ r, J[k2] = r := ⟨_, rfl⟩
          rw [hj] at cP
          have HJK := Lib.hid hj
          rw [hti] at cT cH
          unfold pairV at cP
          clear hti hj t1
          obtain ⟨s, hs⟩ : ∃ s, txtOf J (i : Int) = s := ⟨_, rfl⟩
          rw [hs] at cT
          have HS := Lib.hid hs
          clear hs
          have hkI : (k2 : Int) < (J.length : Int) := by omega
          have hk20 : (0 : Int) ≤ (k2 : Int) := by omega
          obtain ⟨N, hN⟩ : ∃ N, 256 + J.length = N := ⟨_, rfl⟩
          have HN := Lib.hid hN
          have hiN : (i : Int) < (N : Int) := by omega
          clear hN
          go_wp2_with fail
          refine cT.mono ?_
          rintro e w6 ⟨rfl, ho⟩
          have cF := cF w6 ho
          have cR := cR w6 ho
          have cP := cP w6 ho
          clear ho cT
          go_wp2_with fail
          refine cF.mono ?_
          rintro e w7 ⟨rfl, hw7⟩
          subst hw7
          clear cF
          go_wp2_with fail
          refine cR.mono ?_
          rintro e w7 ⟨rfl, hw7⟩
          subst hw7
          clear cR
          go_wp2_with fail
          refine cP.mono ?_
          rintro e w8 ⟨rfl, ho⟩
          have HB8 : Hid (Below w8.heap.size w8 (w8.alloc (.cells #[.int .i64 p, .int .i64 q] 32))) := Lib.hid ((Below.refl _ w8).alloc (Nat.le_refl _) _)
          have HO8 := Lib.hid (ho.below HB8.out)
          clear ho cP
          obtain ⟨g, cap2, x8, hx⟩ := HO8.out.texts
          have y8 := hx i hi1
          rw [HS.out] at y8
          rw [HN.out] at x8
          clear hx
          have cH8 := cH _ HO8.out
          have cM8 := cM _ HO8.out
          go_wp2_with fail
          refine cH8.mono ?_
          rintro e w9 ⟨rfl, hw9⟩
          subst hw9
          clear cH8
          go_wp2_with fail
          refine cM8.mono ?_
          rintro e w9 ⟨r9, rfl, ho9, hb9⟩
          have HO9 := Lib.hid (HO8.out.below hb9)
          have HB9 := Lib.hid hb9
          have HM9 := Lib.hid ho9
          have cN9 := cN _ HO9.out
          clear ho9 hb9 cM8
          go_wp2_with fail
          refine cN9.mono ?_
          rintro e w10 ⟨r10, rfl, ho10, hb10⟩
          have HO10 := Lib.hid (HO9.out.below hb10)
          have HB10 := Lib.hid (HB9.out.trans (hb10.mono HB9.out.size))
          have cS := msame_true r9 r10 (mergesOf J) w10 (HM9.out.below hb10).reads ho10.reads HML.out
          clear ho10 hb10 cN9
          go_wp2_with fail
          refine cS.mono ?_
          rintro e w11 ⟨rfl, hb11⟩
          have HO11 := Lib.hid (HO10.out.below hb11)
          obtain ⟨z0, z1⟩ := pbox_at (HB10.out.trans (hb11.mono HB10.out.size))
          have cH11 := cH _ HO11.out
          clear hb11 cS
          obtain ⟨g2, cap3, x11, y11, u11⟩ := HO11.out.pairs hkJ
          rw [HJK.out] at y11 u11
          simp only at y11 u11
          go_wp2_with (go_at_call 16; refine cH11.mono ?_; rintro e w12 ⟨rfl, hw12⟩; subst hw12)
          go_quiet (fail)
          go_wp2
          go_ret
          exact ⟨rfl, below_drewN' HO11.out.bel _⟩
        · rw [joint_low (.inl (by omega))] at cP
          rw [hti] at cT cH
          unfold pairV at cP
          clear hti t1
          obtain ⟨s, hs⟩ : ∃ s, txtOf J (i : Int) = s := ⟨_, rfl⟩
          rw [hs] at cT
          have HS := Lib.hid hs
          clear hs
          obtain ⟨N, hN⟩ : ∃ N, 256 + J.length = N := ⟨_, rfl⟩
          have HN := Lib.hid hN
          have hiN : (i : Int) < (N : Int) := by omega
          clear hN
          go_wp2_with fail
          refine cT.mono ?_
          rintro e w6 ⟨rfl, ho⟩
          have cF := cF w6 ho
          have cR := cR w6 ho
          have cP := cP w6 ho
          clear ho cT
          go_wp2_with fail
          refine cF.mono ?_
          rintro e w7 ⟨rfl, hw7⟩
          subst hw7
          clear cF
          go_wp2_with fail
          refine cR.mono ?_
          rintro e w7 ⟨rfl, hw7⟩
          subst hw7
          clear cR
          go_wp2_with fail
          refine cP.mono ?_
          rintro e w8 ⟨rfl, ho⟩
          have HB8 : Hid (Below w8.heap.size w8 (w8.alloc (.cells #[.int .i64 0, .int .i64 0] 32))) := Lib.hid ((Below.refl _ w8).alloc (Nat.le_refl _) _)
          have HO8 := Lib.hid (ho.below HB8.out)
          clear ho cP
          obtain ⟨g, cap2, x8, hx⟩ := HO8.out.texts
          have y8 := hx i hi1
          rw [HS.out] at y8
          rw [HN.out] at x8
          clear hx
          have cH8 := cH _ HO8.out
          have cM8 := cM _ HO8.out
          go_wp2_with fail
          refine cH8.mono ?_
          rintro e w9 ⟨rfl, hw9⟩
          subst hw9
          clear cH8
          go_wp2_with fail
          refine cM8.mono ?_
          rintro e w9 ⟨r9, rfl, ho9, hb9⟩
          have HO9 := Lib.hid (HO8.out.below hb9)
          have HB9 := Lib.hid hb9
          have HM9 := Lib.hid ho9
          have cN9 := cN _ HO9.out
          clear ho9 hb9 cM8
          go_wp2_with fail
          refine cN9.mono ?_
          rintro e w10 ⟨r10, rfl, ho10, hb10⟩
          have HO10 := Lib.hid (HO9.out.below hb10)
          have HB10 := Lib.hid (HB9.out.trans (hb10.mono HB9.out.size))
          have cS := msame_true r9 r10 (mergesOf J) w10 (HM9.out.below hb10).reads ho10.reads HML.out
          clear ho10 hb10 cN9
          go_wp2_with fail
          refine cS.mono ?_
          rintro e w11 ⟨rfl, hb11⟩
          have HO11 := Lib.hid (HO10.out.below hb11)
          obtain ⟨z0, z1⟩ := pbox_at (HB10.out.trans (hb11.mono HB10.out.size))
          have cH11 := cH _ HO11.out
          clear hb11 cS
          go_wp2_with (go_at_call 16; refine cH11.mono ?_; rintro e w12 ⟨rfl, hw12⟩; subst hw12)
          go_quiet (fail)
          go_wp2
          go_ret
          exact ⟨rfl, below_drewN' HO11.out.bel _⟩
end Go.Proofs.Ytgjailjnnbpbdaa
