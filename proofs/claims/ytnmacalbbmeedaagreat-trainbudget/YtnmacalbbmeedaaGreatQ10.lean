/- Texts in one: Weight, RefWeight, RefCheck, NvL. -/
import Derived.Test.YtnmacalbbmeedaaGreatQ09
import Derived.Deep.RegionHeld3
import Derived.Test.YtnmacalbbmeedaaGreatQ08
/- Weight of layer 8, and the document's. -/
namespace Go.Proofs.YtnmacalbbmeedaaGreat
open Go.RowKit

/-- A row that is filled up to place k. -/
def filled (Z : List Int) (k : Nat) : List Int := Z.take k ++ List.replicate (Z.length - k) 0
set_option maxRecDepth 100000 in
theorem filled_len {Z : List Int} {k : Nat} (hk : k ≤ Z.length) : (filled Z k).length = Z.length := by
  unfold filled; rw [List.length_append, List.length_take, List.length_replicate]; omega
set_option maxRecDepth 100000 in
theorem filled_zero (Z : List Int) : filled Z 0 = List.replicate Z.length 0 := by simp [filled]
set_option maxRecDepth 100000 in
theorem filled_all (Z : List Int) : filled Z Z.length = Z := by simp [filled]
set_option maxRecDepth 100000 in
theorem filled_step {Z : List Int} {k : Nat} (hk : k < Z.length) : (filled Z k).set k Z[k] = filled Z (k + 1) := by
  unfold filled
  rw [List.set_append_right _ _ (by rw [List.length_take]; omega), List.length_take, Nat.min_eq_left (by omega), Nat.sub_self, List.take_succ_eq_append_getElem hk, List.append_assoc]
  have e : Z.length - k = (Z.length - (k + 1)) + 1 := by omega
  rw [e, List.replicate_succ]
  rfl
set_option maxRecDepth 100000 in
theorem counts_len (L : Bag) : (countsOf L).length = L.length := by simp [countsOf]
set_option maxRecDepth 100000 in
theorem rooms_len (L : Bag) : (roomsOf L).length = L.length := by simp [roomsOf]
def WeighRel (L : Bag) (w : World) (g h : Nat) (i : Value) (wr : World) : Prop :=
  ∃ k : Nat, i = .int .i64 (k : Int) ∧ k ≤ L.length ∧ rowI wr g (filled (countsOf L) k) ∧ rowI wr h (filled (roomsOf L) k) ∧ Below w.heap.size w wr
set_option maxRecDepth 100000 in
theorem weighRel_step {L : Bag} {w wr : World} {g h k : Nat} {o : Obj} (hk : k < L.length) (hg : w.heap.size ≤ g) (hh : w.heap.size ≤ h) (hne : g ≠ h) (h1 : rowI wr g (filled (countsOf L) k)) (h2 : rowI wr h (filled (roomsOf L) k)) (hb : Below w.heap.size w wr) :
    WeighRel L w g h (.int .i64 ((k : Int) + 1)) (((wr.alloc o).setCell ⟨g, k, none⟩ (.int .i64 L[k].2)).setCell ⟨h, k, none⟩ (.int .i64 (roomOf L[k].1))) := by
  have e1 : (countsOf L)[k]'(by rw [counts_len]; exact hk) = L[k].2 := by simp [countsOf]
  have e2 : (roomsOf L)[k]'(by rw [rooms_len]; exact hk) = roomOf L[k].1 := by simp [roomsOf]
  have f1 := filled_step (Z := countsOf L) (k := k) (by rw [counts_len]; exact hk)
  have f2 := filled_step (Z := roomsOf L) (k := k) (by rw [rooms_len]; exact hk)
  rw [e1] at f1
  rw [e2] at f2
  refine ⟨k + 1, by simp, hk, ?_, ?_, ((hb.alloc hb.size _).setCell hg _).setCell hh _⟩
  · rw [← f1]
    exact ((h1.kept (Below.heap_alloc _ _ _ h1.lt)).store k L[k].2).kept (Below.heap_setCell _ _ _ _ hne)
  · rw [← f2]
    exact (((h2.kept (Below.heap_alloc _ _ _ h2.lt)).kept (Below.heap_setCell _ _ _ _ hne.symm))).store k (roomOf L[k].1)
set_option maxRecDepth 100000 in
theorem counts_in {L : Bag} (h : Fits L) : in64 (countsOf L) := by
  intro z hz
  obtain ⟨p, hp, rfl⟩ := List.mem_map.1 hz
  exact (h p hp).2
set_option maxRecDepth 100000 in
theorem rooms_in {L : Bag} (h : Fits L) : in64 (roomsOf L) := by
  intro z hz
  obtain ⟨p, hp, rfl⟩ := List.mem_map.1 hz
  have := (h p hp).1
  show -9223372036854775808 ≤ ((p.1.size - 1 : Nat) : Int) ∧ ((p.1.size - 1 : Nat) : Int) ≤ 9223372036854775807
  omega
set_option maxRecDepth 100000 in
set_option maxHeartbeats 1000000 in
theorem weight_any (v : Value) (L : Bag) (w : World) (hv : wordsAt w v L) (hL : L.length ≤ 1000000) (hf : Fits L) :
    Calls Tryz.prog 64 #[v] w fun e w' => e = .returned (.tuple #[.int .i64 (weighOf L).1, .bool (weighOf L).2]) ∧ Below w.heap.size w w' := by
  have HV := Lib.hid hv
  obtain ⟨a, cap, rfl, hc⟩ := hv
  have HC := Lib.hid hc
  clear hc
  obtain ⟨i0, hi, hz0, hz1, hz2⟩ := info_parts Tryz.info3
  go_enter Tryz.func64, Tryz.ntmps64
  go_wp2_with (first
    | (at_make; refine wpList_make_full _ rfl _ _ 87 rfl w.heap.size 3 i0 (.int .i64 0) 1 Tryz.underlying87 hi hz0 hz1 .i64 .i64 _ _ L.length rfl rfl rfl rfl (by rw [hz2]; omega) (by unfold maxLen; omega) (Nat.le_refl _) ?_; intro w1 hown1 hgr1)
    | (at_make; refine wpList_make_full _ rfl _ _ 87 rfl w1.heap.size 3 i0 (.int .i64 0) 1 Tryz.underlying87 hi hz0 hz1 .i64 .i64 _ _ L.length rfl rfl rfl rfl (by rw [hz2]; omega) (by unfold maxLen; omega) (Nat.le_refl _) ?_; intro w2 hown2 hgr2))
  have HR1 : Hid (rowI w1 w.heap.size (List.replicate L.length 0)) := Lib.hid (ownI.row (ownI_zeros hown1))
  have HR2 : Hid (rowI w2 w1.heap.size (List.replicate L.length 0)) := Lib.hid (ownI.row (ownI_zeros hown2))
  have hlt : w.heap.size < w1.heap.size := HR1.out.lt
  have HK1 : Hid (rowI w2 w.heap.size (List.replicate L.length 0)) := Lib.hid (HR1.out.kept (hgr2.block _ hlt (by simp)))
  have HB2 : Hid (Below w.heap.size w w2) := Lib.hid (((Below.refl w.heap.size w).grown hgr1 (Nat.le_refl _) fun g hg => by cases hg).grown hgr2 (by omega) fun g hg => by cases hg)
  clear hown1 hown2 hgr1 hgr2
  obtain ⟨g, hg⟩ : ∃ g, w.heap.size = g := ⟨_, rfl⟩
  obtain ⟨h, hh⟩ : ∃ h, w1.heap.size = h := ⟨_, rfl⟩
  rw [hg] at HK1 hlt
  rw [hh] at HR2 hlt
  have HG : Hid (w.heap.size ≤ g) := Lib.hid (by omega)
  have HH : Hid (w.heap.size ≤ h) := Lib.hid (by omega)
  rw [hh, hg]
  have HGE := Lib.hid hg
  clear hg hh HR1
  go_loopw [16] (fun i wr => WeighRel L w g h i wr) (fun i _ => L.length + 1 - (intOf i).toNat)
  case atStart => exact ⟨0, rfl, by omega, by rw [filled_zero, counts_len]; exact HK1.out, by rw [filled_zero, rooms_len]; exact HR2.out, HB2.out⟩
  case round =>
    obtain ⟨k, rfl, hk, hr1, hr2, hb⟩ := hrel
    have HB := Lib.hid hb; have HA := Lib.hid hr1; have HZ := Lib.hid hr2
    clear hb hr1 hr2
    by_cases hgo : k < L.length
    · have hkI : (k : Int) < (L.length : Int) := by omega
      obtain ⟨ad, rfl, _⟩ := HC.out k hgo
      obtain ⟨c0, c1⟩ := words_at HV.out HB.out hgo
      have HT := Lib.hid (hf.at hgo).1
      have hkc : k < (filled (countsOf L) k).length := by rw [filled_len (by rw [counts_len]; omega), counts_len]; exact hgo
      have hkr : k < (filled (roomsOf L) k).length := by rw [filled_len (by rw [rooms_len]; omega), rooms_len]; exact hgo
      obtain ⟨o, ho⟩ : ∃ o : Obj, o = .cells #[.string L[k].1, .int .i64 L[k].2] 56 := ⟨_, rfl⟩
      have d1 := (HA.out.kept (w' := wr.alloc o) (Below.heap_alloc _ _ _ HA.out.lt)).cells hkc
      have d2 := ((HZ.out.kept (w' := wr.alloc o) (Below.heap_alloc _ _ _ HZ.out.lt)).kept (w' := (wr.alloc o).setCell ⟨g, k, none⟩ (.int .i64 L[k].2)) (Below.heap_setCell _ _ _ _ (show h ≠ g by omega))).cells hkr
      have n1 : g ≠ wr.heap.size := by have := HA.out.lt; omega
      have n2 : wr.heap.size ≠ g := by have := HA.out.lt; omega
      obtain ⟨d1, e1⟩ := d1
      obtain ⟨d2, e2⟩ := d2
      subst ho
      have HST := Lib.hid (weighRel_step (o := .cells #[.string L[k].1, .int .i64 L[k].2] 56) hgo HG.out HH.out (by omega) HA.out HZ.out HB.out)
      go_wp2_with (go_at_call 85; refine (room_any _ _ HT.out).mono ?_; rintro e w1 ⟨rfl, rfl⟩)
      go_roundw
      case rel => exact HST.out
      case measure => simp [intOf]; omega
    · have hkI : ¬ (k : Int) < (L.length : Int) := by omega
      obtain rfl : k = L.length := by omega
      have hA := HA.out.reads L.length
      have hZ := HZ.out.reads L.length
      have eA := filled_all (countsOf L)
      have eZ := filled_all (roomsOf L)
      rw [counts_len] at eA
      rw [rooms_len] at eZ
      rw [eA, counts_len] at hA
      rw [eZ, rooms_len] at hZ
      have HAA := Lib.hid hA; have HZZ := Lib.hid hZ
      clear hA hZ eA eZ
      go_wp2_with fail
      refine (dot_any _ _ (countsOf L) (roomsOf L) _ HAA.out HZZ.out (by rw [counts_len]; unfold maxLen; omega) (counts_in hf) (rooms_in hf)).mono ?_
      rintro e w3 ⟨rfl, n, hw3⟩
      have HB3 : Hid (Below w.heap.size w w3) := Lib.hid (by rw [hw3]; exact below_drewN' HB.out n)
      clear hw3
      go_wp2
      go_ret2
      exact ⟨rfl, HB3.out⟩
end Go.Proofs.YtnmacalbbmeedaaGreat
/- The document's Weight of layer 8. -/
namespace Go.Proofs.YtnmacalbbmeedaaGreat
open Go.RowKit

set_option maxRecDepth 100000 in
theorem room_at {L : Bag} {k : Nat} (hk : k < L.length) : (countsOf L)[k]'(by rw [counts_len]; exact hk) = L[k].2 ∧ (roomsOf L)[k]'(by rw [rooms_len]; exact hk) = roomOf L[k].1 := by
  simp [countsOf, roomsOf]
set_option maxRecDepth 100000 in
set_option maxHeartbeats 1000000 in
theorem refWeight_any (v : Value) (L : Bag) (w : World) (hv : wordsAt w v L) (hL : L.length ≤ 9223372036854775807) (hf : Fits L) :
    Calls Tryz.prog 44 #[v] w fun e w' => e = .returned (.tuple #[.int .i64 (weighOf L).1, .bool (weighOf L).2]) ∧ ∃ n, w' = w.drewN n := by
  obtain ⟨a, cap, rfl, hc⟩ := hv
  have HC := Lib.hid hc
  clear hc
  unfold weighOf
  go_enter Tryz.func44, Tryz.ntmps44
  go_wp2
  go_loopw [4, 5] (fun t i wr => DotRel (countsOf L) (roomsOf L) w t i wr) (fun _ i _ => L.length + 1 - (intOf i).toNat)
  case atStart => exact ⟨0, 0, rfl, rfl, by omega, by decide, by decide, rfl, 0, rfl⟩
  case round =>
    obtain ⟨k, s, rfl, rfl, hk, hs0, hs1, he, n, hwr⟩ := hrel
    rw [counts_len] at hk
    have HE := Lib.hid he; have HW := Lib.hid hwr
    clear he hwr
    by_cases hgo : k < L.length
    · have hkI : (k : Int) < (L.length : Int) := by omega
      have hg1 : k < (countsOf L).length := by rw [counts_len]; exact hgo
      have hg2 : k < (roomsOf L).length := by rw [rooms_len]; exact hgo
      obtain ⟨ad, rfl, hba, c0, c1⟩ := HC.out k hgo
      obtain ⟨z0, z1, z2⟩ := hf.at hgo
      have y0 : 0 ≤ roomOf L[k].1 := by unfold roomOf; omega
      have y1 : roomOf L[k].1 ≤ 9223372036854775807 := by unfold roomOf; omega
      have cM := fun w => refMul_any L[k].2 (roomOf L[k].1) w z1 z2 (by omega) y1
      obtain ⟨⟨p, bp⟩, hp⟩ : ∃ r, mulOf L[k].2 (roomOf L[k].1) = r := ⟨_, rfl⟩
      have hpi := mulOf_in L[k].2 (roomOf L[k].1)
      rw [hp] at cM hpi
      have cA := fun w => refAdd_any s p w (by omega) (by omega) (by have := hpi.1; simp only at this; omega) hpi.2
      obtain ⟨⟨q, bq⟩, hq⟩ : ∃ r, addOf s p = r := ⟨_, rfl⟩
      rw [hq] at cA
      have hp' : mulOf (countsOf L)[k] (roomsOf L)[k] = (p, bp) := by rw [(room_at hgo).1, (room_at hgo).2]; exact hp
      have HP := Lib.hid hp'; have HQ := Lib.hid hq
      have HN := Lib.hid (dot_next hg1 hg2 HE.out hp')
      clear hp hq hp' y0 y1
      replace c0 : wr.cell? (ad.add (k * 2)) = some (.string L[k].1) := by rw [HW.out]; exact c0
      replace c1 : wr.cell? ⟨(ad.add (k * 2)).block, (ad.add (k * 2)).off + 1, none⟩ = some (.int .i64 L[k].2) := by rw [HW.out]; exact c1
      by_cases hsz : 1 < L[k].1.size
      case' pos =>
        have er : roomOf L[k].1 = (L[k].1.size : Int) - 1 := by unfold roomOf; omega
        rw [er] at cM
        have hm1 : (1 : Int) < (L[k].1.size : Int) := by omega
        clear hsz
      case' neg =>
        have er : roomOf L[k].1 = 0 := by unfold roomOf; omega
        rw [er] at cM
        have hm1 : ¬ (1 : Int) < (L[k].1.size : Int) := by omega
        clear hsz
      all_goals
        clear er
        cases bp with
        | false =>
          have hst : dotFrom 0 (countsOf L) (roomsOf L) = (0, false) := HN.out
          go_wp2
          go_quiet ((go_at_call 60; exact Calls.quiet_of_same (cM _)))
          go_wp2
          go_ret2
          rw [hst]
          exact ⟨rfl, drawn_more HW.out _⟩
        | true =>
          cases bq with
          | false =>
            have hst : dotFrom 0 (countsOf L) (roomsOf L) = (0, false) := by rw [HN.out, HQ.out]; rfl
            go_wp2
            go_quiet ((go_at_call 60; exact Calls.quiet_of_same (cM _)))
            go_wp2_with (go_at_call 61; refine (cA _).mono ?_; rintro e w1 ⟨rfl, rfl⟩)
            go_ret2
            rw [hst]
            exact ⟨rfl, drawn_more HW.out _⟩
          | true =>
            go_wp2
            go_quiet ((go_at_call 60; exact Calls.quiet_of_same (cM _)))
            go_wp2_with (go_at_call 61; refine (cA _).mono ?_; rintro e w1 ⟨rfl, rfl⟩)
            go_roundw
            case rel => exact dotRel_step hg1 hg2 HE.out HP.out HQ.out (drawn_more HW.out _)
            case measure => simp [intOf]; omega
    · have hkI : ¬ (k : Int) < (L.length : Int) := by omega
      have hst : dotFrom 0 (countsOf L) (roomsOf L) = (s, true) := by rw [HE.out, List.drop_of_length_le (by rw [counts_len]; omega), List.drop_of_length_le (by rw [rooms_len]; omega)]; rfl
      go_wp2
      go_ret2
      exact ⟨rfl, n, HW.out⟩
end Go.Proofs.YtnmacalbbmeedaaGreat
/- The document's Check of layer 8. -/
namespace Go.Proofs.YtnmacalbbmeedaaGreat
open Go.RowKit

def RcheckRel (L : Bag) (w : World) (i : Value) (wr : World) : Prop :=
  ∃ k : Nat, i = .int .i64 (k : Int) ∧ k ≤ L.length ∧ checkFrom 0 none L = checkFrom k (before L k) (L.drop k) ∧ ∃ n, wr = w.drewN n
set_option maxRecDepth 100000 in
theorem rcheckRel_step {L : Bag} {w wr : World} {k : Nat} (hk : k < L.length) (hc : checkFrom 0 none L = checkFrom k (before L k) (L.drop k)) (h : wrongBy (before L k) L[k] = 0) (hb : ∃ n, wr = w.drewN n) : RcheckRel L w (.int .i64 ((k : Int) + 1)) wr :=
  ⟨k + 1, by simp, hk, hc.trans (check_next hk h), hb⟩
set_option maxRecDepth 100000 in
set_option maxHeartbeats 2000000 in
theorem refCheck_any (v : Value) (L : Bag) (w : World) (hv : wordsAt w v L) (hL : L.length ≤ 1000000) (hf : Fits L) :
    Calls Tryz.prog 23 #[v] w fun e w' => e = .returned (.tuple #[.int .i64 (checkOf L).1, .int .i64 (checkOf L).2]) ∧ ∃ n, w' = w.drewN n := by
  have HV := Lib.hid hv
  obtain ⟨a, cap, rfl, hc⟩ := hv
  have HC := Lib.hid hc
  clear hc
  go_enter Tryz.func23, Tryz.ntmps23
  go_wp2
  go_loopw [4] (fun i wr => RcheckRel L w i wr) (fun i _ => L.length + 1 - (intOf i).toNat)
  case atStart => exact ⟨0, rfl, by omega, rfl, 0, rfl⟩
  case round =>
    obtain ⟨k, rfl, hk, hck, n, hw⟩ := hrel
    have HW := Lib.hid hw; have HK := Lib.hid hck
    clear hw hck
    by_cases hgo : k < L.length
    · have hkI : (k : Int) < (L.length : Int) := by omega
      obtain ⟨ad, rfl, _, c0, c1⟩ := HC.out k hgo
      replace c0 : wr.cell? (ad.add (k * 2)) = some (.string L[k].1) := by rw [HW.out]; exact c0
      replace c1 : wr.cell? ⟨(ad.add (k * 2)).block, (ad.add (k * 2)).off + 1, none⟩ = some (.int .i64 L[k].2) := by rw [HW.out]; exact c1
      have hT := (hf.at hgo).1
      obtain ⟨⟨t, tc⟩, ht⟩ : ∃ p, L[k] = p := ⟨_, rfl⟩
      rw [ht] at c0 c1 hT
      have HE := Lib.hid ht
      clear ht
      replace hT : t.size ≤ 9223372036854775807 := hT
      by_cases h0 : t.size = 0 ∨ tc < 1
      · have hz : wrongW t tc = 1 := if_pos h0
        have HS := Lib.hid (check_stop (z := 1) hgo HK.out (wrong_self (by rw [HE.out]; exact hz) (by decide)) (by decide))
        clear hz
        by_cases ht0 : t.size = 0
        · obtain rfl : t = ⟨#[]⟩ := ByteArray.ext (Array.eq_empty_of_size_eq_zero ht0)
          go_wp2
          go_ret2
          rw [HS.out]
          exact ⟨rfl, n, HW.out⟩
        · have htc : tc < 1 := h0.resolve_left ht0
          have hne : t.toList.isEmpty = false := some_text fun e => ht0 (by rw [← bs_size]; exact congrArg List.length e)
          go_wp2
          go_ret2
          rw [HS.out]
          exact ⟨rfl, n, HW.out⟩
      · have ht0 : t.size ≠ 0 := fun e => h0 (.inl e)
        have htc : ¬ tc < 1 := fun e => h0 (.inr e)
        have hne : t.toList.isEmpty = false := some_text fun e => ht0 (by rw [← bs_size]; exact congrArg List.length e)
        by_cases hl : 65536 < t.size
        · have hz : wrongW t tc = 4 := by unfold wrongW; rw [if_neg h0, if_pos hl]
          have HS := Lib.hid (check_stop (z := 4) hgo HK.out (wrong_self (by rw [HE.out]; exact hz) (by decide)) (by decide))
          have hlI : (65536 : Int) < (t.size : Int) := by omega
          clear hz hl h0
          go_wp2
          go_ret2
          rw [HS.out]
          exact ⟨rfl, n, HW.out⟩
        · have HZ2 : Hid (wrongW L[k].1 L[k].2 = 0) := Lib.hid (by rw [HE.out]; unfold wrongW; rw [if_neg h0, if_neg hl])
          have hlI : ¬ (65536 : Int) < (t.size : Int) := by omega
          clear hl h0
          by_cases hk0 : 0 < k
          · have hd : decide (0 < k) = true := decide_eq_true hk0
            obtain ⟨j, hj⟩ : ∃ j, j + 1 = k := ⟨k - 1, by omega⟩
            have hjI : (k : Int) - 1 = (j : Int) := by omega
            have hjL : j < L.length := by omega
            have hwj : IntKind.i64.wrap (j : Int) = (j : Int) := IntWalk.i64_in _ (by omega)
            have hjl : (j : Int) < (L.length : Int) := by omega
            obtain ⟨ad', e', _, y0, y1⟩ := HC.out j hjL
            cases e'
            replace y0 : wr.cell? (ad.add (j * 2)) = some (.string L[j].1) := by rw [HW.out]; exact y0
            have hU := (hf.at hjL).1
            obtain ⟨⟨u, uc⟩, hu⟩ : ∃ p, L[j] = p := ⟨_, rfl⟩
            rw [hu] at y0 hU
            have HU := Lib.hid hu
            have HJ := Lib.hid hj
            clear hu hj hk0 y1
            have cL := fun w => less_any u t w hU hT
            cases ha : ahead u t with
            | true =>
              rw [ha] at cL
              have HN : Hid (wrongBy (before L k) L[k] = 0) := Lib.hid (wrong_less HJ.out hjL HZ2.out (by rw [HU.out, HE.out]; exact ha))
              clear ha
              go_wp2
              go_quiet ((go_at_call 43; exact Calls.quiet_of (cL _)))
              go_wp2
              go_roundw
              case rel => exact rcheckRel_step hgo HK.out HN.out (drawn_more HW.out _)
              case measure => simp [intOf]; omega
            | false =>
              rw [ha] at cL
              have HN : Hid (wrongBy (before L k) L[k] = 6) := Lib.hid (wrong_more HJ.out hjL HZ2.out (by rw [HU.out, HE.out]; exact ha))
              have HS := Lib.hid (check_stop hgo HK.out HN.out (by decide))
              clear ha
              go_wp2
              go_quiet ((go_at_call 43; exact Calls.quiet_of (cL _)))
              go_wp2
              go_ret2
              rw [HS.out]
              exact ⟨rfl, drawn_more HW.out _⟩
          · have hd : decide (0 < k) = false := decide_eq_false hk0
            have HN : Hid (wrongBy (before L k) L[k] = 0) := Lib.hid (by
              obtain rfl : k = 0 := by omega
              exact wrong_first HZ2.out L)
            clear hk0
            go_wp2
            go_quiet (fail)
            go_wp2
            go_roundw
            case rel => exact rcheckRel_step hgo HK.out HN.out (drawn_more HW.out _)
            case measure => simp [intOf]; omega
    · have hkI : ¬ (k : Int) < (L.length : Int) := by omega
      have HV2 : Hid (wordsAt wr (.slice a L.length cap) L) := Lib.hid (by rw [HW.out]; exact HV.out.drew n)
      have HS := Lib.hid (check_end (by omega) HK.out)
      have cW := refWeight_any _ L wr HV2.out (by omega) hf
      obtain ⟨⟨q, b⟩, hq⟩ : ∃ r, weighOf L = r := ⟨_, rfl⟩
      rw [hq] at cW HS
      clear hq
      go_wp2_with fail
      refine cW.mono ?_
      rintro e w2 ⟨rfl, m, hw2⟩
      have HB2 : Hid (∃ n, w2 = w.drewN n) := Lib.hid (by rw [hw2]; exact drawn_more HW.out m)
      clear hw2
      cases b with
      | true =>
        go_wp2
        go_ret2
        rw [HS.out]
        exact ⟨rfl, HB2.out⟩
      | false =>
        go_wp2
        go_ret2
        rw [HS.out]
        exact ⟨rfl, HB2.out⟩
end Go.Proofs.YtnmacalbbmeedaaGreat
/- What is learnt of a table, as plain lists; rows of rows of texts of the call's own. -/
namespace Go.Proofs.YtnmacalbbmeedaaGreat
open Go.RowKit

/-- A table's words, each as its bytes. -/
def startW (L : Bag) : List (List ByteArray) := L.map fun p => bytesT p.1
set_option maxRecDepth 100000 in
theorem startW_len (L : Bag) : (startW L).length = L.length := by simp [startW]
set_option maxRecDepth 100000 in
theorem start_one (L : Bag) : ∀ w ∈ startW L, ∀ t ∈ w, t.size = 1 := by
  intro w hw t ht
  obtain ⟨p, _, rfl⟩ := List.mem_map.1 hw
  exact bytesT_one _ t ht
set_option maxRecDepth 100000 in
theorem start_all (L : Bag) : allT (startW L) = bytesOf L := by
  unfold allT startW bytesOf
  rw [List.map_map]
  congr 1
  apply List.map_congr_left
  intro p _
  exact bytesT_len p.1
def wtN : Bag → Int
  | [] => 0
  | p :: L => p.2 * ((p.1.size - 1 : Nat) : Int) + wtN L
set_option maxRecDepth 100000 in
theorem nv_check_each : ∀ (L : Bag) (k : Nat) (o : Option (ByteArray × Int)), checkFrom k o L = none → ∀ p ∈ L, wrongW p.1 p.2 = 0
  | [], _, _, _, p, hp => by simp at hp
  | q :: r, k, o, h, p, hp => by
    rw [checkFrom] at h
    split at h
    · rename_i h0
      rcases List.mem_cons.1 hp with rfl | hp
      · unfold wrongBy at h0
        split at h0
        · rename_i h1; exact h1
        · exact h0
      · exact nv_check_each r _ _ h p hp
    · cases h
set_option maxRecDepth 100000 in
theorem nv_dot : ∀ (L : Bag) (t r : Int), dotFrom t (countsOf L) (roomsOf L) = (r, true) → r = t + wtN L ∧ (t ≤ 9223372036854775807 → r ≤ 9223372036854775807)
  | [], t, r, h => by
    have e : (t, true) = (r, true) := h
    simp only [Prod.mk.injEq, and_true] at e
    subst e
    simp [wtN]
  | p :: L, t, r, h => by
    have e : dotFrom t (countsOf (p :: L)) (roomsOf (p :: L)) = bif (mulOf p.2 (roomOf p.1)).2 then (bif (addOf t (mulOf p.2 (roomOf p.1)).1).2 then dotFrom (addOf t (mulOf p.2 (roomOf p.1)).1).1 (countsOf L) (roomsOf L) else (0, false)) else (0, false) := rfl
    rw [e] at h
    have e1 : wtN (p :: L) = p.2 * ((p.1.size - 1 : Nat) : Int) + wtN L := rfl
    rw [e1]
    unfold mulOf at h
    split at h
    · simp only [cond_true] at h
      unfold addOf at h
      split at h
      · rename_i h2
        simp only [cond_true] at h
        obtain ⟨a, b⟩ := nv_dot L _ r h
        unfold roomOf at a h2
        exact ⟨by omega, fun _ => b h2.2.2⟩
      · simp only [cond_false, Prod.mk.injEq] at h
        exact absurd h.2 (by decide)
    · simp only [cond_false, Prod.mk.injEq] at h
      exact absurd h.2 (by decide)
set_option maxRecDepth 100000 in
theorem cap_wt : ∀ L : Bag, (∀ p ∈ L, 1 ≤ p.2) → capW (startW L) (countsOf L) = wtN L
  | [], _ => rfl
  | p :: L, h => by
    have ih := cap_wt L fun q hq => h q (List.mem_cons_of_mem _ hq)
    have h1 := h p List.mem_cons_self
    have e : capW (startW (p :: L)) (countsOf (p :: L)) = (if 1 ≤ p.2 then (((bytesT p.1).length - 1 : Nat) : Int) * p.2 else 0) + capW (startW L) (countsOf L) := rfl
    rw [e, if_pos h1, ih, bytesT_len, Int.mul_comm]
    rfl
set_option maxRecDepth 100000 in
/-- What may come of a right table stays within. -/
theorem right_cap {L : Bag} (h : (checkOf L).2 = 0) : capW (startW L) (countsOf L) ≤ 9223372036854775807 := by
  unfold checkOf at h
  split at h
  · rename_i k e he
    simp only at h
    subst h
    have : ∀ (L : Bag) (k : Nat) (o : Option (ByteArray × Int)) (j : Nat), checkFrom k o L ≠ some (j, 0) := by
      intro L
      induction L with
      | nil => intro k o j h; cases h
      | cons p r ih =>
        intro k o j h
        rw [checkFrom] at h
        split at h
        · exact ih _ _ _ h
        · rename_i h0
          simp only [Option.some.injEq, Prod.mk.injEq] at h
          exact h0 h.2
    exact absurd he (this _ _ _ _)
  · rename_i he
    have hw := nv_check_each _ _ _ he
    have hc : ∀ p ∈ L, 1 ≤ p.2 := fun p hp => by
      have h1 := hw p hp
      unfold wrongW at h1
      split at h1
      · cases h1
      · omega
    cases hd : weighOf L with
    | mk r f =>
      rw [hd] at h
      cases f with
      | true =>
        rw [cap_wt L hc]
        have h2 := nv_dot L 0 r hd
        have := h2.2 (by decide)
        omega
      | false => simp at h
/-! Behind merges. -/
set_option maxRecDepth 100000 in
theorem cap_join (m : Mg) : ∀ (W : List (List ByteArray)) (C : List Int), capW (W.map (joinT m)) C ≤ capW W C
  | [], _ => by simp [capW]
  | _ :: _, [] => by simp [capW]
  | w :: R, c :: C => by
    have ih := cap_join m R C
    have hl := joinT_len m w
    rw [List.map_cons, capW_cons, capW_cons]
    split
    · have : (((joinT m w).length - 1 : Nat) : Int) * c ≤ ((w.length - 1 : Nat) : Int) * c := Int.mul_le_mul_of_nonneg_right (by omega) (by omega)
      omega
    · omega
set_option maxRecDepth 100000 in
theorem cap_run (ms : List Mg) : ∀ (W : List (List ByteArray)) (C : List Int), capW (runT W ms) C ≤ capW W C := by
  induction ms with
  | nil => intro W C; exact Int.le_refl _
  | cons m r ih => intro W C; exact Int.le_trans (ih _ _) (cap_join m W C)
set_option maxRecDepth 100000 in
theorem all_run (ms : List Mg) : ∀ W : List (List ByteArray), allT (runT W ms) ≤ allT W := by
  induction ms with
  | nil => intro W; exact Nat.le_refl _
  | cons m r ih => intro W; exact Nat.le_trans (ih _) (all_join_le m W)
set_option maxRecDepth 100000 in
theorem runT_len (ms : List Mg) (W : List (List ByteArray)) : (runT W ms).length = W.length := by rw [runT_map, List.length_map]
set_option maxRecDepth 100000 in
theorem size_spell {t : ByteArray} : ∀ {W : List ByteArray}, t ∈ W → t.size ≤ (spellT W).length
  | w :: r, h => by
    have e : spellT (w :: r) = bs w ++ spellT r := rfl
    rw [e, List.length_append]
    rcases List.mem_cons.1 h with rfl | h
    · rw [bs_size]; omega
    · have := size_spell h; omega
set_option maxRecDepth 100000 in
theorem spell_bytes (s : ByteArray) : (spellT (bytesT s)).length = s.size := by
  have : ∀ l : List UInt8, (spellT (l.map fun b => (⟨#[b]⟩ : ByteArray))).length = l.length := by
    intro l
    induction l with
    | nil => rfl
    | cons b r ih =>
      have e : spellT ((b :: r).map fun b => (⟨#[b]⟩ : ByteArray)) = bs ⟨#[b]⟩ ++ spellT (r.map fun b => (⟨#[b]⟩ : ByteArray)) := rfl
      rw [e, List.length_append, ih, bs_size]
      simp [ByteArray.size]; omega
  unfold bytesT
  rw [this, bs_size]
set_option maxRecDepth 100000 in
/-- Each text behind merges is a part of a word. -/
theorem run_small {L : Bag} {n : Nat} (h : bytesOf L ≤ n) (ms : List Mg) : ∀ W ∈ runT (startW L) ms, ∀ t ∈ W, t.size ≤ n := by
  intro W hW t ht
  rw [runT_map] at hW
  obtain ⟨v, hv, rfl⟩ := List.mem_map.1 hW
  obtain ⟨p, hp, rfl⟩ := List.mem_map.1 hv
  have h1 := size_spell ht
  rw [run_spell, spell_bytes] at h1
  have h2 : p.1.size ≤ bytesOf L := by
    have h3 : ∀ M : Bag, p ∈ M → p.1.size ≤ bytesOf M := by
      intro M
      induction M with
      | nil => intro h; simp at h
      | cons q r ih =>
        intro h
        have e : bytesOf (q :: r) = q.1.size + bytesOf r := by simp [bytesOf]
        rw [e]
        rcases List.mem_cons.1 h with h | h
        · rw [h]; omega
        · have := ih h; omega
    exact h3 L hp
  omega
/-! Rows of rows of the call's own. -/
/-- The rows WW lie in v, each of the call's own from base on. -/
def rowsO (w : World) (base : Nat) (v : Value) (WW : List (List ByteArray)) : Prop := ∃ E : List Hs, E.length = WW.length ∧ ownE slTE w base v E ∧ ∀ i (h : i < E.length) (h' : i < WW.length), ownE textE w base (hsV E[i]) WW[i]
set_option maxRecDepth 100000 in
theorem rowsO.reads {w : World} {base : Nat} {v : Value} {WW : List (List ByteArray)} (h : rowsO w base v WW) : rowsT w v WW := by
  obtain ⟨E, h1, h2, h3⟩ := h
  exact ⟨E, h1, h2.reads, fun i a b => ⟨(h3 i a b).reads, (h3 i a b).nilNone⟩⟩
set_option maxRecDepth 100000 in
theorem rowsO.below {w w' : World} {base : Nat} {v : Value} {WW : List (List ByteArray)} (h : rowsO w base v WW) (hb : Below w.heap.size w w') : rowsO w' base v WW := by
  obtain ⟨E, h1, h2, h3⟩ := h
  exact ⟨E, h1, h2.below hb, fun i a b => (h3 i a b).below hb⟩
set_option maxRecDepth 100000 in
theorem rowsO.nil (w : World) (b : Nat) : rowsO w b (.slice none 0 0) [] := ⟨[], rfl, ownE.nil _ _, fun i h => by simp at h⟩
set_option maxRecDepth 100000 in
theorem rowsO.form {w : World} {base : Nat} {v : Value} {WW : List (List ByteArray)} (h : rowsO w base v WW) : ∃ a cap, v = .slice a WW.length cap := h.reads.form
set_option maxRecDepth 100000 in
theorem own_types {α β : Type} {R : Elt α} {R2 : Elt β} {w : World} {b b2 : Nat} {v u : Value} {A : List α} {B : List β} (h : ownE R w b v A) (k : ownE R2 w b2 u B) (hne : R.ty ≠ R2.ty) : ∀ g, v.ownBlock = some g → u.ownBlock ≠ some g := fun g e1 e2 => by
  obtain ⟨c1, h1⟩ := h.block g e1
  obtain ⟨c2, h2⟩ := k.block g e2
  rw [h1] at h2
  exact hne (by injection h2 with h2; injection h2)
set_option maxRecDepth 100000 in
/-- Another row, of another type, grows. -/
theorem rowsO.grown {w w' : World} {base b2 : Nat} {v u : Value} {WW : List (List ByteArray)} {β : Type} {R2 : Elt β} {B : List β} (h : rowsO w base v WW) (k : ownE R2 w b2 u B) (h1 : slTE.ty ≠ R2.ty) (h2 : textE.ty ≠ R2.ty) (hg : w.grownBy w' u.ownBlock) : rowsO w' base v WW := by
  obtain ⟨E, e1, e2, e3⟩ := h
  exact ⟨E, e1, e2.kept fun g hgo => hg.block g (e2.lt g hgo).2 fun e => own_types e2 k h1 g hgo e.symm, fun i a b => (e3 i a b).kept fun g hgo => hg.block g ((e3 i a b).lt g hgo).2 fun e => own_types (e3 i a b) k h2 g hgo e.symm⟩
set_option maxRecDepth 100000 in
/-- One more row. -/
theorem rowsO.app {w w' : World} {base : Nat} {v r : Value} {WW : List (List ByteArray)} {E : List Hs} {e : Hs} {W : List ByteArray} (h1 : E.length = WW.length) (h2 : ownE slTE w base v E) (h3 : ∀ i (h : i < E.length) (h' : i < WW.length), ownE textE w base (hsV E[i]) WW[i]) (hr : ownE textE w base (hsV e) W)
    (ho : ownE slTE w' base r (E ++ [e])) (hg : w.grownBy w' v.ownBlock) : rowsO w' base r (WW ++ [W]) := by
  have kp : ∀ {x : Value} {A : List ByteArray}, ownE textE w base x A → ownE textE w' base x A := fun h => h.kept fun g hgo => hg.block g (h.lt g hgo).2 fun e => own_types h h2 (by decide) g hgo e.symm
  refine ⟨E ++ [e], by simp [h1], ho, fun i a b => ?_⟩
  by_cases hi : i < E.length
  · rw [List.getElem_append_left hi, List.getElem_append_left (show i < WW.length by omega)]
    exact kp (h3 i hi (by omega))
  · have : i = E.length := by simp at a; omega
    subst this
    rw [List.getElem_append_right (Nat.le_refl _), List.getElem_append_right (by omega)]
    simp only [Nat.sub_self, List.getElem_cons_zero, h1]
    exact kp hr
end Go.Proofs.YtnmacalbbmeedaaGreat
