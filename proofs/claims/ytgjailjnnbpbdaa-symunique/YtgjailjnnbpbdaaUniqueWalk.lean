/- The walk of SymUnique. -/
import Derived.Test.YtgjailjnnbpbdaaPRow
namespace Go.Proofs.Ytgjailjnnbpbdaa
open Go.RowKit Go.Maps

def UniRel (l : List (Int × Int)) (w : World) (K : Nat) (i : Value) (wr : World) : Prop := ∃ (k : Nat) (J : List Joint), i = .int .i64 (k : Int) ∧ k ≤ l.length ∧ J.length ≤ k ∧ OwnT w K J wr
set_option maxRecDepth 100000 in
set_option maxHeartbeats 4000000 in
theorem symUnique_walk (v : Value) (a b : Int) (w : World) (l : List (Int × Int)) (hv : eltsAt pairE w v l) (hL : l.length ≤ maxLen) (hf : FitsP l) (wa : (Lit.int .i64 a).wf = true) (wb : (Lit.int .i64 b).wf = true) :
    Calls Try.prog 4 #[v, .int .i64 a, .int .i64 b] w fun e w' => e = .returned (.bool true) ∧ Below w.heap.size w w' := by
  obtain ⟨a0, a1⟩ := bounds_i64 wa
  obtain ⟨b0, b1⟩ := bounds_i64 wb
  have HV := Lib.hid hv
  obtain ⟨ar, cap, rfl, hc⟩ := hv
  have HC := Lib.hid hc
  have HF := Lib.hid hf
  clear hc hf wa wb
  unfold maxLen at hL
  go_enter Try.func4, Try.ntmps4
  go_wp2_with fail
  refine (awake_any _).mono ?_
  rintro e w1 ⟨rfl, hb1⟩
  have HB1 := Lib.hid hb1
  clear hb1
  by_cases hl : 60 < l.length
  · have hlI : (60 : Int) < (l.length : Int) := by omega
    go_wp2
    go_ret
    exact ⟨rfl, HB1.out⟩
  have hlI : ¬ (60 : Int) < (l.length : Int) := by omega
  go_wp2_with fail
  refine (snew_any _).mono ?_
  rintro e w2 ⟨rfl, hw2⟩
  have HO : Hid (OwnT w w1.heap.size [] w2) := Lib.hid (by rw [hw2]; exact OwnT.new HB1.out)
  clear hw2
  obtain ⟨K, hK⟩ : ∃ K, w1.heap.size = K := ⟨_, rfl⟩
  rw [hK] at HO ⊢
  clear hK
  go_wp2
  go_loopw [8] (fun i wr => UniRel l w K i wr) (fun i _ => l.length + 1 - (intOf i).toNat)
  case atStart => exact ⟨0, [], rfl, by omega, by simp, HO.out⟩
  case round =>
    obtain ⟨k, J, rfl, hk, hlJ, hown⟩ := hrel
    have HO2 := Lib.hid hown
    have HG := Lib.hid hown.good
    clear hown
    by_cases hgo : k < l.length
    · have hkI : (k : Int) < (l.length : Int) := by omega
      obtain ⟨ad, rfl, _⟩ := HC.out k hgo
      obtain ⟨c0, c1⟩ := pairs_at HV.out HO2.out.bel hgo
      obtain ⟨⟨f1, f2⟩, f3, f4⟩ := HF.out _ (List.getElem_mem hgo)
      obtain ⟨⟨p, q⟩, hp⟩ : ∃ p, l[k] = p := ⟨_, rfl⟩
      rw [hp] at c0 c1 f1 f2 f3 f4
      have HP := Lib.hid hp
      clear hp
      go_wp2
      go_region_held3 (fun w' => w'.cell? (ad.add (k * 2)) = some (.int .i64 p) ∧ w'.cell? ⟨(ad.add (k * 2)).block, (ad.add (k * 2)).off + 1, none⟩ = some (.int .i64 q)) (first | exact ⟨c0, c1⟩ | exact ⟨c5, d5⟩) (first | (go_at_call 9; refine (joinO_any w wr.drew K J p q HO2.out.drew (by omega) f1 f2 f3 f4).mono ?_; rintro e w5 ⟨rfl, ho5⟩; have HO5 := Lib.hid ho5; clear ho5; obtain ⟨c5, d5⟩ := pairs_at HV.out HO5.out.bel hgo; rw [HP.out] at c5 d5))
      have hln := join_len J p q
      have HJ : Hid ((joinOf J p q).1.2 = 0 → (joinOf J p q).1.1 = ((256 + J.length : Nat) : Int) ∧ thereOf (joinOf J p q).2 (joinOf J p q).1.1 = true) := Lib.hid fun h => join_ok h
      clear c0 c1 c5 d5
      obtain ⟨⟨⟨id, er⟩, J'⟩, hj⟩ : ∃ r, joinOf J p q = r := ⟨_, rfl⟩
      rw [hj] at HO5 hln HJ
      simp only [hj]
      clear hj
      simp only at hln
      by_cases he : er = 0
      · subst he
        obtain ⟨e1, e2⟩ := HJ.out rfl
        simp only at e1 e2
        have cT := textO_any w w5 K J' id HO5.out (by omega) (by omega) (by omega)
        rw [e2] at cT
        clear e1 e2
        generalize txtOf J' id = s at *
        by_cases hs : 5000 < s.size
        · have hsI : (5000 : Int) < (s.size : Int) := by omega
          go_wp2_with fail
          refine cT.mono ?_
          rintro e w6 ⟨rfl, _, ho⟩
          have HO6 := Lib.hid ho
          clear ho cT
          go_wp2
          go_ret
          exact ⟨rfl, HO6.out.bel⟩
        · have hsI : ¬ (5000 : Int) < (s.size : Int) := by omega
          go_wp2_with fail
          refine cT.mono ?_
          rintro e w6 ⟨rfl, _, ho⟩
          have HO6 := Lib.hid ho
          clear ho cT
          go_wp2
          go_roundw
          case rel => exact ⟨k + 1, J', by simp, hgo, by omega, HO6.out⟩
          case measure => simp [intOf]; omega
      · go_wp2
        go_roundw
        case rel => exact ⟨k + 1, J', by simp, hgo, by omega, HO5.out⟩
        case measure => simp [intOf]; omega
    · have hkI : ¬ (k : Int) < (l.length : Int) := by omega
      have cA := textO_any w wr K J a HO2.out (by omega) a0 a1
      have cB := fun w6 (ho : OwnT w K J w6) => textO_any w w6 K J b ho (by omega) b0 b1
      have cP := fun w6 (ho : OwnT w K J w6) => pairO_any w w6 K J a ho (by omega) a0 a1
      cases hta : thereOf J a with
      | false =>
        rw [joint_low (.inr hta)] at cP
        rw [txt_not hta, hta] at cA
        unfold noText at cA
        unfold pairV at cP
        generalize txtOf J b = y at *
        generalize thereOf J b = tb at *
        clear hta
        go_wp2_with fail
        refine cA.mono ?_
        rintro e w6 ⟨rfl, _, ho⟩
        have cB := cB w6 ho
        clear ho cA
        go_wp2_with fail
        refine cB.mono ?_
        rintro e w7 ⟨rfl, _, ho⟩
        have cP := cP w7 ho
        clear ho cB
        go_wp2_with fail
        refine cP.mono ?_
        rintro e w8 ⟨rfl, _, ho⟩
        have HO8 := Lib.hid ho.bel
        clear ho cP
        go_wp2
        go_ret
        exact ⟨rfl, HO8.out.alloc HO8.out.size _⟩
      | true =>
        have cF := fun w6 (ho : OwnT w K J w6) => findO_any w w6 K J (txtOf J a) ho (by have := txt_le HG.out a; omega)
        rw [find_txt HG.out hta] at cF
        have hx0 : (txtOf J a).toList.isEmpty = false := some_text fun e => by
          have h1 := (txt_size HG.out hta).1
          rw [← bs_size, e] at h1
          simp at h1
        rw [hta] at cA
        have HTA := Lib.hid hta
        clear hta
        have hcmp : thereOf J b = false ∨ (thereOf J b = true ∧ a = b) ∨ (thereOf J b = true ∧ (a == b) = false ∧ ((txtOf J a).toList == (txtOf J b).toList) = false) := by
          cases htb : thereOf J b with
          | false => exact .inl rfl
          | true =>
            by_cases hab : a = b
            · exact .inr (.inl ⟨rfl, hab⟩)
            · exact .inr (.inr ⟨rfl, by simpa using hab, text_ne fun e => hab (txt_inj HG.out HTA.out htb e)⟩)
        have hpr : (∃ p q, jointOf J a = ((txtOf J a, p, q), true) ∧ thereOf J p = true ∧ thereOf J q = true ∧ (0 ≤ p ∧ p < a) ∧ (0 ≤ q ∧ q < a) ∧ txtOf J p ++ txtOf J q = txtOf J a) ∨ jointOf J a = ((noText, 0, 0), false) := by
          by_cases h256 : 256 ≤ a
          · exact .inl (joint_facts HG.out h256 HTA.out)
          · exact .inr (joint_low (.inl (by omega)))
        rcases hpr with ⟨p, q, hj, tp, tq, hp, hq, hpq⟩ | hj
        · have cL := fun w6 (ho : OwnT w K J w6) => textO_any w w6 K J p ho (by omega) (by omega) (by omega)
          have cR := fun w6 (ho : OwnT w K J w6) => textO_any w w6 K J q ho (by omega) (by omega) (by omega)
          have sL := txt_le HG.out p
          have sR := txt_le HG.out q
          rw [tp] at cL
          rw [tq] at cR
          rw [hj] at cP
          unfold pairV at cP
          clear tp tq hj
          rcases hcmp with h1 | ⟨h1, h2⟩ | ⟨h1, h2, h3⟩
          case' inr.inl => subst h2
          all_goals (
            rw [h1] at cB
            clear h1
            generalize txtOf J a = x at *
            try generalize txtOf J b = y at *
            generalize txtOf J p = lt at *
            generalize txtOf J q = rt at *
            have hN : ¬ 9223372036854775807 < lt.size + rt.size := by omega
            go_wp2_with fail
            refine cA.mono ?_
            rintro e w6 ⟨rfl, _, ho⟩
            have cB := cB w6 ho
            clear ho cA
            go_wp2_with fail
            refine cB.mono ?_
            rintro e w7 ⟨rfl, _, ho⟩
            have cF := cF w7 ho
            have cP := cP w7 ho
            clear ho cB
            go_wp2_with fail
            refine cF.mono ?_
            rintro e w8 ⟨rfl, hw8⟩
            subst hw8
            clear cF
            go_wp2_with fail
            refine cP.mono ?_
            rintro e w8 ⟨rfl, _, ho⟩
            have HO8 := Lib.hid (ho.below ((Below.refl _ w8).alloc (Nat.le_refl _) (.cells #[.int .i64 p, .int .i64 q] 32)))
            clear ho cP
            go_wp2_with fail
            refine (cL _ HO8.out).mono ?_
            rintro e w9 ⟨rfl, hb9, ho⟩
            obtain ⟨x0, x1⟩ := pbox_at hb9
            have HB9 := Lib.hid hb9
            have HO9 := Lib.hid ho
            clear ho hb9 cL
            go_wp2_with fail
            refine (cR _ HO9.out).mono ?_
            rintro e w10 ⟨rfl, hb10, ho⟩
            obtain ⟨y0, y1⟩ := pbox_at (HB9.out.trans (hb10.mono HB9.out.size))
            have HO10 := Lib.hid ho.bel
            clear ho hb10 cR x0 x1
            go_wp2
            go_ret
            exact ⟨rfl, HO10.out⟩)
        · rw [hj] at cP
          unfold pairV at cP
          clear hj
          rcases hcmp with h1 | ⟨h1, h2⟩ | ⟨h1, h2, h3⟩
          case' inr.inr.inl => subst h2
          all_goals (
            rw [h1] at cB
            clear h1
            generalize txtOf J a = x at *
            try generalize txtOf J b = y at *
            go_wp2_with fail
            refine cA.mono ?_
            rintro e w6 ⟨rfl, _, ho⟩
            have cB := cB w6 ho
            clear ho cA
            go_wp2_with fail
            refine cB.mono ?_
            rintro e w7 ⟨rfl, _, ho⟩
            have cF := cF w7 ho
            have cP := cP w7 ho
            clear ho cB
            go_wp2_with fail
            refine cF.mono ?_
            rintro e w8 ⟨rfl, hw8⟩
            subst hw8
            clear cF
            go_wp2_with fail
            refine cP.mono ?_
            rintro e w8 ⟨rfl, _, ho⟩
            have HO8 := Lib.hid ho.bel
            clear ho cP
            go_wp2
            go_ret
            exact ⟨rfl, HO8.out.alloc HO8.out.size _⟩)
end Go.Proofs.Ytgjailjnnbpbdaa
