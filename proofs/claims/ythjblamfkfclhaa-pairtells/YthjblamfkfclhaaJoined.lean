/- The document's example; both tables, with what can be joined. -/
import Derived.Test.YthjblamfkfclhaaBetter
import Derived.Test.YthjblamfkfclhaaBoth
import Derived.BigQuiet
namespace Go.Proofs.Ythjblamfkfclhaa
open Go.RowKit Go.Maps

theorem better1 : betterOf [] (97, 98, 3) (98, 97, 2) = true := by kernel_rfl
theorem better2 : betterOf [] (97, 98, 3) (98, 97, 3) = true := by kernel_rfl
theorem better3 : betterOf [] (98, 97, 3) (97, 98, 3) = false := by kernel_rfl
theorem fits_small {a b c : Int} (h1 : 0 ≤ a) (h2 : a ≤ 100) (h3 : 0 ≤ b) (h4 : b ≤ 100) (h5 : 0 ≤ c) (h6 : c ≤ 100) : FitsI (a, b, c) := ⟨⟨by simp only; omega, by simp only; omega⟩, ⟨by simp only; omega, by simp only; omega⟩, ⟨by simp only; omega, by simp only; omega⟩⟩
set_option maxHeartbeats 2000000 in
theorem awake_any (w : World) : Calls Try.prog 6 #[] w fun e w' => e = .returned (.bool true) ∧ Below w.heap.size w w' := by
  have cB := fun (w2 : World) (h : Stab w2 w.heap.size (.slice none 0 0) none []) => better_any w.heap.size _ _ [] (97, 98, 3) (98, 97, 2) w2 h (by simp) (fits_small (by omega) (by omega) (by omega) (by omega) (by omega) (by omega)) (fits_small (by omega) (by omega) (by omega) (by omega) (by omega) (by omega))
  have cC := fun (w2 : World) (h : Stab w2 w.heap.size (.slice none 0 0) none []) => better_any w.heap.size _ _ [] (97, 98, 3) (98, 97, 3) w2 h (by simp) (fits_small (by omega) (by omega) (by omega) (by omega) (by omega) (by omega)) (fits_small (by omega) (by omega) (by omega) (by omega) (by omega) (by omega))
  have cD := fun (w2 : World) (h : Stab w2 w.heap.size (.slice none 0 0) none []) => better_any w.heap.size _ _ [] (98, 97, 3) (97, 98, 3) w2 h (by simp) (fits_small (by omega) (by omega) (by omega) (by omega) (by omega) (by omega)) (fits_small (by omega) (by omega) (by omega) (by omega) (by omega) (by omega))
  rw [better1] at cB
  rw [better2] at cC
  rw [better3] at cD
  unfold itemV at cB cC cD
  simp only at cB cC cD
  have HS : Hid (Stab (w.alloc (.cells #[.slice none 0 0, .map none] 66)) w.heap.size (.slice none 0 0) none []) := Lib.hid (new_stab w)
  have CB := Lib.hid cB
  have CC := Lib.hid cC
  have CD := Lib.hid cD
  clear cB cC cD
  go_enter Try.func6, Try.ntmps6
  go_wp2_with fail
  refine (snew_any _).mono ?_
  rintro e w1 ⟨rfl, rfl⟩
  obtain ⟨wb, hwb⟩ : ∃ wb, wb = ((w.alloc (.cells #[.slice none 0 0, .map none] 66)).alloc (.cells #[.int .i64 97, .int .i64 98] 31)).alloc (.cells #[.int .i64 98, .int .i64 97] 31) := ⟨_, rfl⟩
  have HGB : Hid (Grown w wb) := Lib.hid (by rw [hwb]; exact (((Grown.refl w).alloc _).alloc _).alloc _)
  have HSB : Hid (Stab wb w.heap.size (.slice none 0 0) none []) := Lib.hid (by rw [hwb]; exact HS.out.grown (((Grown.refl _).alloc _).alloc _))
  obtain ⟨u0, u1, v0, v1⟩ : wb.cell? ⟨w.heap.size + 1, 0, none⟩ = some (.int .i64 97) ∧ wb.cell? ⟨w.heap.size + 1, 1, none⟩ = some (.int .i64 98) ∧ wb.cell? ⟨w.heap.size + 1 + 1, 0, none⟩ = some (.int .i64 98) ∧ wb.cell? ⟨w.heap.size + 1 + 1, 1, none⟩ = some (.int .i64 97) := by
    rw [hwb]
    have e : w.heap.size + 1 = (w.alloc (.cells #[.slice none 0 0, .map none] 66)).heap.size := by rw [World.size_alloc]
    rw [e]
    generalize w.alloc (.cells #[.slice none 0 0, .map none] 66) = wa
    simp
  have hw' := hwb.symm
  clear hwb HS
  go_wp2_with fail
  refine (CB.out _ HSB.out).mono ?_
  rintro e w2 ⟨rfl, hg2⟩
  have HG2 := Lib.hid hg2
  have a0 := hg2.cell u0
  have a1 := hg2.cell u1
  have b0 := hg2.cell v0
  have b1 := hg2.cell v1
  clear hg2 hw'
  go_wp2_with fail
  refine (CC.out _ (HSB.out.grown HG2.out)).mono ?_
  rintro e w3 ⟨rfl, hg3⟩
  have HG3 : Hid (Grown wb w3) := Lib.hid (HG2.out.trans hg3)
  have c0 := HG3.out.cell u0
  have c1 := HG3.out.cell u1
  have d0 := HG3.out.cell v0
  have d1 := HG3.out.cell v1
  clear hg3 a0 a1 b0 b1
  go_wp2_with fail
  refine (CD.out _ (HSB.out.grown HG3.out)).mono ?_
  rintro e w4 ⟨rfl, hg4⟩
  have HG4 : Hid (Grown wb w4) := Lib.hid (HG3.out.trans hg4)
  clear hg4
  go_wp2
  go_ret
  exact ⟨rfl, (HGB.out.trans HG4.out).below⟩
theorem both_new {w w1 w2 w3 : World} (hb : Below w.heap.size w w1) (h2 : w2 = w1.alloc (.cells #[.slice none 0 0, .map none] 66)) {v p : Value} (h3 : Rtab w3 w2.heap.size w2.heap.size v p []) (hb3 : Below w2.heap.size w2 w3) : Both w w1.heap.size w2.heap.size [] [] w3 := by
  have hs := hb.size
  have hs2 : w2.heap.size = w1.heap.size + 1 := by rw [h2, World.size_alloc]
  have hb2 : Below w.heap.size w w2 := by rw [h2]; exact hb.alloc hs _
  refine ⟨_, _, v, p, (show Stab w2 w1.heap.size (.slice none 0 0) none [] by rw [h2]; exact new_stab w1).below hb3, ?_, ⟨h3.cells, by omega, h3.texts.mono (by omega), h3.pairs.mono (by omega)⟩, hb2.trans (hb3.mono (by omega))⟩
  rintro k (e | e | e)
  · omega
  · cases e
  · cases e
/-- Both tables have the same symbols; so far it went. -/
def JoinedRet (n : Nat) (w : World) (e : Ending) (w' : World) : Prop := ∃ K K2 J ok, e = .returned (.tuple #[.pointer (some ⟨K, 0, none⟩), .pointer (some ⟨K2, 0, none⟩), .bool ok]) ∧ J.length ≤ n ∧ Both w K K2 J J w'
def JoinRel (l : List (Int × Int)) (w : World) (K K2 : Nat) (i : Value) (wr : World) : Prop := ∃ (k : Nat) (J : List Joint), i = .int .i64 (k : Int) ∧ k ≤ l.length ∧ J.length ≤ k ∧ Both w K K2 J J wr
set_option maxRecDepth 100000 in
set_option maxHeartbeats 4000000 in
theorem joined_any (v : Value) (w : World) (l : List (Int × Int)) (hv : eltsAt pairE w v l) (hf : FitsP l) (hl : l.length ≤ 60) :
    Calls Try.prog 7 #[v] w fun e w' => JoinedRet l.length w e w' := by
  have HV := Lib.hid hv
  obtain ⟨ar, cap, rfl, hc⟩ := hv
  have HC := Lib.hid hc
  have HF := Lib.hid hf
  clear hc hf
  go_enter Try.func7, Try.ntmps7
  go_wp2_with fail
  refine (snew_any _).mono ?_
  rintro e w2 ⟨rfl, hw2⟩
  have HW2 := Lib.hid hw2
  clear hw2
  go_wp2_with fail
  refine (rnew_any _).mono ?_
  rintro e w3 ⟨v3, p3, rfl, hr3, hb3⟩
  have HO : Hid (Both w w.heap.size w2.heap.size [] [] w3) := Lib.hid (both_new (Below.refl _ _) HW2.out hr3 hb3)
  clear HW2 hr3 hb3
  obtain ⟨K, hK⟩ : ∃ K, w.heap.size = K := ⟨_, rfl⟩
  obtain ⟨K2, hK2⟩ : ∃ K2, w2.heap.size = K2 := ⟨_, rfl⟩
  rw [hK, hK2] at HO
  rw [hK, hK2]
  clear hK hK2
  go_wp2
  go_loopw [7] (fun i wr => JoinRel l w K K2 i wr) (fun i _ => l.length + 1 - (intOf i).toNat)
  case atStart => exact ⟨0, [], rfl, by omega, by simp, HO.out⟩
  case round =>
    obtain ⟨k, J, rfl, hk, hlJ, hown⟩ := hrel
    have HO2 := Lib.hid hown
    have HG := Lib.hid hown.good
    clear hown
    by_cases hgo : k < l.length
    · have hkI : (k : Int) < (l.length : Int) := by omega
      obtain ⟨ad, rfl, _⟩ := HC.out k hgo
      obtain ⟨c0, c1⟩ := pairs_at HV.out HO2.out.bel hgo
      obtain ⟨⟨f1, f2⟩, f3, f4⟩ := HF.out _ (List.getElem_mem hgo)
      obtain ⟨⟨p, q⟩, hp⟩ : ∃ p, l[k] = p := ⟨_, rfl⟩
      rw [hp] at c0 c1 f1 f2 f3 f4
      have HP := Lib.hid hp
      clear hp
      go_wp2
      go_region_held3 (fun w' => w'.cell? (ad.add (k * 2)) = some (.int .i64 p) ∧ w'.cell? ⟨(ad.add (k * 2)).block, (ad.add (k * 2)).off + 1, none⟩ = some (.int .i64 q)) (first | exact ⟨c0, c1⟩ | exact ⟨c5, d5⟩) (first | (go_at_call 18; refine (joinB HO2.out.drew (by omega) f1 f2 f3 f4).mono ?_; rintro e w5 ⟨rfl, ho5⟩; have HO5 := Lib.hid ho5; clear ho5; obtain ⟨c5, d5⟩ := pairs_at HV.out HO5.out.bel hgo; rw [HP.out] at c5 d5))
      clear c0 c1
      go_wp2
      go_region_held3 (fun w' => w'.cell? (ad.add (k * 2)) = some (.int .i64 p) ∧ w'.cell? ⟨(ad.add (k * 2)).block, (ad.add (k * 2)).off + 1, none⟩ = some (.int .i64 q)) (first | exact ⟨c5, d5⟩ | exact ⟨c6, d6⟩) (first | (go_at_call 19; refine (rjoinB HO5.out.drew HG.out (by omega) p q).mono ?_; rintro e w6 ⟨rfl, ho6⟩; have HO6 := Lib.hid ho6; clear ho6; obtain ⟨c6, d6⟩ := pairs_at HV.out HO6.out.bel hgo; rw [HP.out] at c6 d6))
      have hln := join_len J p q
      clear c5 d5 c6 d6
      obtain ⟨⟨⟨z, er⟩, J'⟩, hj⟩ : ∃ r, joinOf J p q = r := ⟨_, rfl⟩
      rw [hj] at HO6 hln
      simp only [hj]
      clear hj
      simp only at hln
      replace HO6 : Hid (Both w K K2 J' J' w6) := HO6
      have hlJ' : J'.length ≤ k + 1 := by omega
      obtain ⟨g, cap2, x0, hx⟩ := HO6.out.texts
      obtain ⟨m, hm⟩ : ∃ m, 255 + J'.length = m := ⟨_, rfl⟩
      have hx1 := hx m (by omega)
      have hn : 256 + J'.length = m + 1 := by omega
      rw [hn] at x0
      have hmb : (m : Int) ≤ 1000000 := by omega
      clear hx hn hm HO5 HO2
      generalize txtOf J' (m : Int) = s at *
      by_cases hs : 5000 < s.size
      · have hsI : (5000 : Int) < (s.size : Int) := by omega
        go_wp2
        go_quiet (fail)
        go_wp2
        go_ret3
        exact ⟨K, K2, J', false, rfl, by omega, HO6.out.drewN _⟩
      · have hsI : ¬ (5000 : Int) < (s.size : Int) := by omega
        go_wp2
        go_quiet (fail)
        go_wp2
        go_roundw
        case rel => exact ⟨k + 1, J', by simp, hgo, by omega, HO6.out.drewN _⟩
        case measure => simp [intOf]; omega
    · have hkI : ¬ (k : Int) < (l.length : Int) := by omega
      go_wp2
      go_ret3
      exact ⟨K, K2, J, true, rfl, by omega, HO2.out⟩
end Go.Proofs.Ythjblamfkfclhaa
