/- The walk of FreqPlays. -/
import Derived.Test.YtikdhlpmoldijaaAwake
import Derived.Test.YtikdhlpmoldijaaRefMerge
import Derived.Test.YtikdhlpmoldijaaCMerge
namespace Go.Proofs.Ytikdhlpmoldijaa
open Go.RowKit Go.Maps

theorem Cnt.drew {w : World} {K : Nat} {b : Option Nat} {L : Bag} (h : Cnt w K b L) : Cnt w.drew K b L := h.kept fun _ _ _ => rfl
theorem kept_undrew {S : Nat → Prop} {w w' : World} (h : Kept S w.drew w') : Kept S w w' := ⟨h.os, h.tape, h.output, h.size, h.block⟩
theorem AddRet.undrew {K : Nat} {b : Option Nat} {L : Bag} {w w' : World} (h : AddRet K b L w.drew w') : AddRet K b L w w' := by
  obtain ⟨b', hc, hk, hb⟩ := h
  exact ⟨b', hc, kept_undrew hk, hb⟩
theorem Own.below {w wr w2 : World} {K : Nat} {X : Bag} (h : Own w K X wr) (hb : Below wr.heap.size wr w2) : Own w K X w2 := by
  obtain ⟨b, hc, h1, h2, h3⟩ := h
  exact ⟨b, hc.below hb, h1, h2, h3.trans (hb.mono h3.size)⟩
theorem Own.bel {w wr : World} {K : Nat} {X : Bag} (h : Own w K X wr) : Below w.heap.size w wr := by
  obtain ⟨b, _, _, _, h3⟩ := h
  exact h3
theorem merge_len : ∀ (l X : Bag), (mergeW X l).1.length ≤ X.length + l.length
  | [], X => by simp [mergeW]
  | p :: r, X => by
    unfold mergeW
    split
    · have h1 := merge_len r (addW X p.1 p.2).1
      have h2 := len_addW X p.1 p.2
      simp only [List.length_cons]
      omega
    · simp
def PlayRel (l : Bag) (w : World) (K : Nat) (x i : Value) (wr : World) : Prop :=
  ∃ (k : Nat) (X : Bag), i = .int .i64 (k : Int) ∧ k ≤ l.length ∧ X.length ≤ k ∧ Own w K X wr ∧ ownW wr w.heap.size x X
/-- Block g is a row of n words at least that may be written. -/
def rowW (w : World) (g n : Nat) : Prop := ∃ cs, w.heap[g]? = some (.cells cs 30 (0, 0)) ∧ n * 2 ≤ cs.size
theorem rowW.cells {w : World} {g n j : Nat} (h : rowW w g n) (hj : j < n) : (∃ u, w.cell? ⟨g, j * 2, none⟩ = some u) ∧ w.frozen? ⟨g, j * 2, none⟩ = false := by
  obtain ⟨cs, hg, h1⟩ := h
  refine ⟨⟨cs[j * 2], ?_⟩, Lib.frozen_of_heap hg _⟩
  rw [cell_of_row w g _ cs 30 (0, 0) hg, Array.getElem?_eq_getElem (by omega)]
theorem rowW.store {w : World} {g n : Nat} (h : rowW w g n) (j : Nat) (u : Value) : rowW (w.setCell ⟨g, j, none⟩ u) g n := by
  obtain ⟨cs, hg, h1⟩ := h
  exact ⟨_, heap_setCell_at hg u, by simpa using h1⟩
theorem rowW_of_own {w : World} {b g : Nat} {v : Value} {L : Bag} (h : ownW w b v L) (hg : v.ownBlock = some g) : rowW w g L.length := by
  rcases h.2 with ⟨rfl, _⟩ | ⟨g', cap, cur, rfl, _, hgg, h1, _, h3, _⟩
  · simp [Value.ownBlock] at hg
  · simp [Value.ownBlock] at hg; subst hg; exact ⟨cur, hgg, by omega⟩
def OverRel (u : Value) (n : Nat) (w : World) (i : Value) (wr : World) : Prop := ∃ m : Nat, i = .int .i64 (m : Int) ∧ m ≤ n ∧ Kept (fun k => u.ownBlock = some k) w wr ∧ ∀ g, u.ownBlock = some g → rowW wr g n
theorem overRel_step {g n cap : Nat} {w wr : World} {m : Nat} (hm : m < n) (hk : Kept (fun k => (Value.slice (some ⟨g, 0, none⟩) n cap).ownBlock = some k) w wr) (hr : ∀ g', (Value.slice (some ⟨g, 0, none⟩) n cap).ownBlock = some g' → rowW wr g' n) (u : Value) :
    OverRel (.slice (some ⟨g, 0, none⟩) n cap) n w (.int .i64 ((m : Int) + 1)) (wr.setCell ⟨g, m * 2, none⟩ u) :=
  ⟨m + 1, by simp, hm, hk.setCell _ _ fun _ => rfl, fun g' e => by cases e; exact (hr g rfl).store _ u⟩
theorem own_some {w : World} {b n cap : Nat} {a : Option Addr} {M : Bag} (h : ownW w b (.slice a n cap) M) (hM : 0 < M.length) : ∃ g, a = some ⟨g, 0, none⟩ ∧ b ≤ g := by
  rcases h.2 with ⟨_, h1⟩ | ⟨g', cap', cur, hv, hb, _⟩
  · omega
  · cases hv; exact ⟨g', rfl, hb⟩
/-- One list, as a row of lists. -/
theorem one_row {w : World} {v : Value} {l : Bag} (h : wordsAt w v l) : rowsAt (w.alloc (.cells #[v] 22)) (.slice (some ⟨w.heap.size, 0, none⟩) 1 1) [l] := by
  refine ⟨_, 1, rfl, fun j hj => ⟨_, v, rfl, by simp, ?_, ?_⟩⟩
  · have hj0 : j = 0 := by simpa using hj
    subst hj0
    rw [add_zero_off, cell_of_row _ _ _ _ 22 (0, 0) (heap_alloc_new w _)]; rfl
  · have hj0 : j = 0 := by simpa using hj
    subst hj0
    exact h.below ((Below.refl _ w).alloc (Nat.le_refl _) _) (Nat.le_refl _)
set_option maxRecDepth 100000 in
set_option maxHeartbeats 4000000 in
theorem freqPlays_walk (v : Value) (s : ByteArray) (w : World) (l : Bag) (hv : wordsAt w v l) (hL : l.length ≤ maxLen) (hf : Fits l) (hs : s.size ≤ maxLen) :
    Calls Try.prog 3 #[v, .string s] w fun e w' => e = .returned (.bool true) ∧ Below w.heap.size w w' := by
  have HV := Lib.hid hv
  obtain ⟨a, cap, rfl, hc⟩ := hv
  have HC := Lib.hid hc
  clear hc
  unfold maxLen at hL hs
  go_enter Try.func3, Try.ntmps3
  go_wp2_with fail
  refine (awake_any _).mono ?_
  rintro e w1 ⟨rfl, hb1⟩
  have HB1 := Lib.hid hb1
  have HV1 := Lib.hid (HV.out.below hb1 (Nat.le_refl _))
  clear hb1
  go_wp2_with fail
  refine (great_any _ l 100 _ HV1.out hL).mono ?_
  rintro e w2 ⟨g, rfl, rfl, hg⟩
  cases g with
  | true =>
    go_wp2
    go_ret
    exact ⟨rfl, HB1.out⟩
  | false =>
    obtain ⟨hl, _⟩ := hg rfl
    by_cases hs1 : 100 < s.size
    · have hsI : (100 : Int) < (s.size : Int) := by omega
      go_wp2
      go_ret
      exact ⟨rfl, HB1.out⟩
    · have hsI : ¬ (100 : Int) < (s.size : Int) := by omega
      clear hs1
      go_wp2_with fail
      refine (new_any _).mono ?_
      rintro e w3 ⟨rfl, hw3⟩
      have HS : Hid (Own w w2.heap.size [] w3) := Lib.hid ⟨none, by rw [hw3]; exact new_cnt w2, fun m e => (by cases e), HB1.out.size, by rw [hw3]; exact HB1.out.alloc HB1.out.size _⟩
      clear hw3
      obtain ⟨K, hK⟩ : ∃ K, w2.heap.size = K := ⟨_, rfl⟩
      rw [hK] at HS ⊢
      clear hK
      go_wp2
      go_loopw [6, 7] (fun x i wr => PlayRel l w K x i wr) (fun _ i _ => l.length + 1 - (intOf i).toNat)
      case atStart => exact ⟨0, [], rfl, by omega, by simp, HS.out, ownW.nil _ _⟩
      case round =>
        obtain ⟨k, X, rfl, hk, hlX, hown, hx⟩ := hrel
        have HO := Lib.hid hown; have HX := Lib.hid hx
        clear hown hx
        by_cases hgo : k < l.length
        · have hkI : (k : Int) < (l.length : Int) := by omega
          obtain ⟨ad, rfl, _⟩ := HC.out k hgo
          obtain ⟨c0, c1⟩ := words_at HV.out HO.out.bel hgo
          obtain ⟨f1, f2, f3⟩ := hf.at hgo
          obtain ⟨⟨t, tc⟩, ht⟩ : ∃ p, l[k] = p := ⟨_, rfl⟩
          rw [ht] at c0 c1 f1 f2 f3
          have HT := Lib.hid ht
          clear ht
          obtain ⟨b, hcn, hb, hK2, hbel⟩ := HO.out
          have HCN := Lib.hid hcn; have HBEL := Lib.hid hbel
          clear hcn hbel
          go_wp2
          go_region_held3 (fun w' => w'.cell? (ad.add (k * 2)) = some (.string t) ∧ w'.cell? ⟨(ad.add (k * 2)).block, (ad.add (k * 2)).off + 1, none⟩ = some (.int .i64 tc)) (first | exact ⟨c0, c1⟩ | exact ⟨c5, d5⟩) (first | (go_at_call 9; refine (cadd_any K b X t tc wr.drew HCN.out.drew f1 f2 f3 (by omega)).mono ?_; rintro e w5 ⟨rfl, hr⟩; have HK5 := Lib.hid hr.undrew; have HO5 := Lib.hid (Own.next hb hK2 HBEL.out hr.undrew); clear hr; obtain ⟨c5, d5⟩ := words_at HV.out HO5.out.bel hgo; rw [HT.out] at c5 d5))
          have HX5 : Hid (ownW w5 w.heap.size u6 X) := Lib.hid (by
            obtain ⟨_, _, hkp, _⟩ := HK5.out
            exact HX.out.keptC HCN.out hkp)
          have HSO := Lib.hid HCN.out.2.1
          have hB5 := HO5.out.bel.size
          clear c0 c1
          go_wp2
          go_region_held3 (fun w' => w'.cell? (ad.add (k * 2)) = some (.string t) ∧ w'.cell? ⟨(ad.add (k * 2)).block, (ad.add (k * 2)).off + 1, none⟩ = some (.int .i64 tc)) (first | exact ⟨c5, d5⟩ | exact ⟨c6, d6⟩) (first | (go_at_call 10; refine (radd_any w.heap.size u6 X t tc w5.drew HX5.out.drew HSO.out hB5 (by omega) f1 f2 f3).mono ?_; rintro e w6 ⟨r6, rfl, ho6, hb6⟩; have HX6 := Lib.hid ho6; have HO6 := Lib.hid (HO5.out.below (below_undrew hb6)); clear ho6 hb6; obtain ⟨c6, d6⟩ := words_at HV.out HO6.out.bel hgo; rw [HT.out] at c6 d6))
          obtain ⟨⟨Y, z⟩, hY⟩ : ∃ r, addW X t tc = r := ⟨_, rfl⟩
          have hYl : Y.length ≤ k + 1 := by have := len_addW X t tc; rw [hY] at this; simp only at this; omega
          rw [hY] at HO6 HX6
          simp only [hY]
          clear hY c5 d5 c6 d6
          obtain ⟨a6, cap6, rfl, _⟩ := HX6.out.form
          obtain ⟨b6, hcn6, _⟩ := HO6.out
          have HC6 := Lib.hid hcn6
          clear hcn6
          go_wp2_with fail
          refine (ccount_any K b6 Y s _ HC6.out (by omega)).mono ?_
          rintro e w7 ⟨rfl, rfl⟩
          go_wp2_with fail
          refine (rcount_any _ Y s _ HX6.out.reads (by omega)).mono ?_
          rintro e w8 ⟨rfl, rfl⟩
          go_wp2_with fail
          refine (clen_any K b6 Y _ HC6.out).mono ?_
          rintro e w9 ⟨rfl, rfl⟩
          go_wp2
          go_roundw
          case rel => exact ⟨k + 1, Y, by simp, hgo, hYl, HO6.out, HX6.out⟩
          case measure => simp [intOf]; omega
        · have hkI : ¬ (k : Int) < (l.length : Int) := by omega
          obtain ⟨b, hcn, hb, hK2, hbel⟩ := HO.out
          have HCN := Lib.hid hcn; have HBEL := Lib.hid hbel
          have HSO := Lib.hid hcn.2.1
          clear hcn hbel
          go_wp2_with fail
          refine (freeze_any K b X _ HCN.out (by omega)).mono ?_
          rintro e w5 ⟨r5, rfl, ho5, hb5⟩
          have HF := Lib.hid ho5; have HB5 := Lib.hid hb5
          clear ho5 hb5
          go_wp2_with fail
          refine (same_true _ _ X _ HF.out.reads (HX.out.below HB5.out).reads (by omega)).mono ?_
          rintro e w6 ⟨rfl, n6, hw6⟩
          obtain ⟨a5, cap5, rfl, _⟩ := HF.out.form
          have HF6 : Hid (ownW w6 wr.heap.size (.slice a5 X.length cap5) X) := Lib.hid (by rw [hw6]; exact HF.out.drewN n6)
          have HB6 : Hid (Below wr.heap.size wr w6) := Lib.hid (by rw [hw6]; exact below_drewN' HB5.out n6)
          clear hw6 HF HB5
          obtain ⟨wo, hwo⟩ : ∃ wo, wo = wr := ⟨_, rfl⟩
          subst hwo
          go_wp2
          go_loopw [11] (fun i wr => OverRel (.slice a5 X.length cap5) X.length w6 i wr) (fun i _ => X.length + 1 - (intOf i).toNat)
          case atStart => exact ⟨0, rfl, by omega, Kept.refl _ _, fun g hg => rowW_of_own HF6.out hg⟩
          case round =>
            obtain ⟨m, rfl, hm, hkp, hrw⟩ := hrel
            have HKP := Lib.hid hkp; have HRW := Lib.hid hrw
            clear hkp hrw
            by_cases hgo2 : m < X.length
            · have hmI : (m : Int) < (X.length : Int) := by omega
              obtain ⟨g, rfl, hg5⟩ := own_some HF6.out (by omega)
              obtain ⟨⟨u, cg⟩, fg⟩ := (HRW.out g rfl).cells hgo2
              go_wp2
              go_roundw
              case rel => exact overRel_step hgo2 HKP.out HRW.out _
              case measure => simp [intOf]; omega
            · have hmI : ¬ (m : Int) < (X.length : Int) := by omega
              have HB7 : Hid (Below wo.heap.size wo wr) := Lib.hid (HB6.out.trans (HKP.out.below HB6.out.size fun k hk => (HF6.out.lt k hk).1))
              have HO7 := Lib.hid (HO.out.below HB7.out)
              have HX7 := Lib.hid (HX.out.below HB7.out)
              have HV7 := Lib.hid (HV.out.below HO7.out.bel (Nat.le_refl _))
              clear HB6 HB7 HKP HRW HF6 HCN HBEL HO HX HV1
              have HZ : Hid ([l].flatten = l) := Lib.hid (by simp)
              have HA : Hid (Below wr.heap.size wr (wr.alloc (.cells #[.slice a l.length cap] 22))) := Lib.hid ((Below.refl _ wr).alloc (Nat.le_refl _) _)
              go_wp2_with fail
              refine (cmerge_any _ [l] _ (one_row HV7.out) (by simp) (fun q hq => by rw [List.mem_singleton] at hq; rw [hq]; exact hf) (by rw [HZ.out]; omega)).mono ?_
              rw [HZ.out]
              rintro e w8 ⟨y, rfl, hy8, hb8⟩
              have HB8 : Hid (Below wr.heap.size wr w8) := Lib.hid (HA.out.trans (hb8.mono HA.out.size))
              have HY8 := Lib.hid hy8
              clear hy8 hb8
              go_wp2_with fail
              refine (rmerge_any _ l _ (HV7.out.below HB8.out (Nat.le_refl _)) hf (by omega)).mono ?_
              rintro e w9 ⟨q, rfl, hq9, hb9⟩
              have HB9 := Lib.hid (HB8.out.trans (hb9.mono HB8.out.size))
              have HY9 := Lib.hid (HY8.out.below hb9)
              have HQ9 := Lib.hid hq9
              clear hq9 hb9
              have hml : (mergeW [] l).1.length ≤ 1000000 := by
                have := HQ9.out.1
                have h2 := merge_len l []
                simp at h2; omega
              obtain ⟨⟨M, z⟩, hM⟩ : ∃ r, mergeW [] l = r := ⟨_, rfl⟩
              rw [hM] at HY9 HQ9 hml
              simp only [hM]
              clear hM HY8 HB8
              obtain ⟨b9, hcn9, _⟩ := HO7.out.below HB9.out
              have HC9 := Lib.hid hcn9
              have HX9 := Lib.hid (HX7.out.below HB9.out)
              clear hcn9
              go_wp2_with fail
              refine (freeze_any K b9 X _ HC9.out (by omega)).mono ?_
              rintro e w10 ⟨r10, rfl, ho10, hb10⟩
              have HF10 := Lib.hid ho10; have HB10 := Lib.hid hb10
              clear ho10 hb10
              go_wp2_with fail
              refine (same_true _ _ X _ HF10.out.reads (HX9.out.below HB10.out).reads (by omega)).mono ?_
              rintro e w11 ⟨rfl, n11, hw11⟩
              have HY11 : Hid (wordsAt w11 y M) := Lib.hid (by rw [hw11]; exact (HY9.out.below HB10.out).reads)
              have HQ11 : Hid (wordsAt w11 q M) := Lib.hid (by rw [hw11]; exact (HQ9.out.below HB10.out).reads)
              have HB11 : Hid (Below w.heap.size w w11) := Lib.hid (by rw [hw11]; exact below_drewN' ((HO7.out.below HB9.out).below HB10.out).bel n11)
              clear hw11
              go_wp2_with fail
              refine (same_true _ _ M _ HY11.out HQ11.out (by omega)).mono ?_
              rintro e w12 ⟨rfl, n12, hw12⟩
              have HB12 : Hid (Below w.heap.size w w12) := Lib.hid (by rw [hw12]; exact below_drewN' HB11.out n12)
              clear hw12
              go_wp2
              go_ret
              exact ⟨rfl, HB12.out⟩
end Go.Proofs.Ytikdhlpmoldijaa
