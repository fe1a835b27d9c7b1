/- Merge of lists of words. -/
import Derived.Test.YtikdhlpmoldijaaFreeze
import Derived.Test.YtikdhlpmoldijaaRefAdd
namespace Go.Proofs.Ytikdhlpmoldijaa
open Go.RowKit Go.Maps

/-- The slice value v reads as lists of words. -/
def rowsAt (w : World) (v : Value) (LL : List Bag) : Prop :=
  ∃ a cap, v = .slice a LL.length cap ∧ ∀ j (h : j < LL.length), ∃ ad x, a = some ad ∧ ad.block < w.heap.size ∧ w.cell? (ad.add j) = some x ∧ wordsAt w x LL[j]
theorem merge_ok {X r : Bag} {p : ByteArray × Int} (h : (addW X p.1 p.2).2 = 0) : mergeW X (p :: r) = mergeW (addW X p.1 p.2).1 r := by
  conv => lhs; unfold mergeW
  rw [if_pos h]
theorem merge_err {X r : Bag} {p : ByteArray × Int} (h : (addW X p.1 p.2).2 ≠ 0) : mergeW X (p :: r) = ([], (addW X p.1 p.2).2) := by
  conv => lhs; unfold mergeW
  rw [if_neg h]
/-- The counter under way, in memory of the call's own. -/
def Own (w : World) (K : Nat) (X : Bag) (wr : World) : Prop := ∃ b, Cnt wr K b X ∧ (∀ m, b = some m → w.heap.size ≤ m) ∧ w.heap.size ≤ K ∧ Below w.heap.size w wr
theorem Own.next {w wr w2 : World} {K : Nat} {b : Option Nat} {X : Bag} (hb : ∀ m, b = some m → w.heap.size ≤ m) (hK : w.heap.size ≤ K) (hbel : Below w.heap.size w wr) (h : AddRet K b X wr w2) : Own w K X w2 := by
  obtain ⟨b', hc, hk, hb'⟩ := h
  refine ⟨b', hc, fun m e => ?_, hK, hbel.trans (hk.below hbel.size fun k hk => ?_)⟩
  · rcases hb' with rfl | ⟨m', rfl, hm⟩
    · exact hb m e
    · cases e; exact Nat.le_trans hbel.size hm
  · rcases hk with rfl | e
    · exact hK
    · exact hb k e.symm
def OutRel (LL : List Bag) (w : World) (K : Nat) (i : Value) (wr : World) : Prop :=
  ∃ (j : Nat) (X : Bag), i = .int .i64 (j : Int) ∧ j ≤ LL.length ∧ X.length + (LL.drop j).flatten.length ≤ LL.flatten.length ∧ mergeW [] LL.flatten = mergeW X (LL.drop j).flatten ∧ Own w K X wr
def InRel (LL : List Bag) (j : Nat) (l : Bag) (w : World) (K : Nat) (i : Value) (wr : World) : Prop :=
  ∃ (k : Nat) (X : Bag), i = .int .i64 (k : Int) ∧ k ≤ l.length ∧ X.length + (l.drop k ++ (LL.drop (j + 1)).flatten).length ≤ LL.flatten.length ∧ mergeW [] LL.flatten = mergeW X (l.drop k ++ (LL.drop (j + 1)).flatten) ∧ Own w K X wr
/-- What Merge leaves. -/
def MergeRet (l : Bag) (w : World) (e : Ending) (w' : World) : Prop := ∃ r, e = .returned (.tuple #[r, .int .i64 (mergeW [] l).2]) ∧ ownW w' w.heap.size r (mergeW [] l).1 ∧ Below w.heap.size w w'
set_option maxRecDepth 100000 in
set_option maxHeartbeats 4000000 in
theorem cmerge_any (v : Value) (LL : List Bag) (w : World) (hv : rowsAt w v LL) (hn : LL.length ≤ 1000000) (hf : ∀ l ∈ LL, Fits l) (hl : LL.flatten.length ≤ 1000000) :
    Calls Try.prog 16 #[v] w fun e w' => MergeRet LL.flatten w e w' := by
  obtain ⟨a, cap, rfl, hc⟩ := hv
  have HC := Lib.hid hc
  clear hc
  go_enter Try.func16, Try.ntmps16
  go_wp2_with fail
  refine (new_any _).mono ?_
  rintro e w1 ⟨rfl, hw1⟩
  have HS : Hid (Own w w.heap.size [] w1) := Lib.hid ⟨none, by rw [hw1]; exact new_cnt w, fun m e => (by cases e), Nat.le_refl _, by rw [hw1]; exact (Below.refl _ w).alloc (Nat.le_refl _) _⟩
  clear hw1
  obtain ⟨K, hK⟩ : ∃ K, w.heap.size = K := ⟨_, rfl⟩
  rw [hK] at HS ⊢
  go_wp2
  go_loopw [13] (fun i wr => OutRel LL w K i wr) (fun i _ => LL.length + 1 - (intOf i).toNat)
  case atStart => exact ⟨0, [], rfl, by omega, by simp, rfl, HS.out⟩
  case round =>
    obtain ⟨j, X, rfl, hj, hlen, hm, hown⟩ := hrel
    have HM := Lib.hid hm; have HL := Lib.hid hlen; have HO := Lib.hid hown
    clear hm hlen hown
    by_cases hgo : j < LL.length
    · have hjI : (j : Int) < (LL.length : Int) := by omega
      obtain ⟨ad, x, rfl, hadb, hcell, hw⟩ := HC.out j hgo
      have HW := Lib.hid hw
      obtain ⟨b, _, _, _, hbel⟩ := HO.out
      replace hcell : wr.cell? (ad.add j) = some x := by rw [← hcell]; exact hbel.cell (by rw [add_block]; exact hadb)
      clear hbel hw
      obtain ⟨a2, cap2, rfl, _⟩ := HW.out
      have hll : LL[j].length ≤ 1000000 := by
        have := HL.out
        rw [List.drop_eq_getElem_cons hgo, List.flatten_cons, List.length_append] at this
        omega
      obtain ⟨wo, hwo⟩ : ∃ wo, wo = wr := ⟨_, rfl⟩
      subst hwo
      go_wp2
      go_loopw [19] (fun i wr => InRel LL j LL[j] w K i wr) (fun i _ => LL[j].length + 1 - (intOf i).toNat)
      case atStart =>
        refine ⟨0, X, rfl, by omega, ?_, ?_, HO.out⟩
        · have := HL.out
          rw [List.drop_eq_getElem_cons hgo, List.flatten_cons] at this
          exact this
        · rw [HM.out, List.drop_eq_getElem_cons hgo, List.flatten_cons]; rfl
      case round =>
        obtain ⟨k, Y, rfl, hk, hlen2, hm2, hown2⟩ := hrel
        have HM2 := Lib.hid hm2; have HL2 := Lib.hid hlen2; have HO2 := Lib.hid hown2
        clear hm2 hlen2 hown2
        by_cases hgo2 : k < LL[j].length
        · have hkI : (k : Int) < (LL[j].length : Int) := by omega
          obtain ⟨b2, hcn, hb2, hK2, hbel2⟩ := HO2.out
          have HCN := Lib.hid hcn; have HBEL := Lib.hid hbel2
          clear hcn hbel2
          obtain ⟨ad2, rfl, _⟩ := (show ∃ ad2, a2 = some ad2 ∧ True by obtain ⟨a', c', e, hc⟩ := HW.out; cases e; obtain ⟨ad, e, _⟩ := hc k hgo2; exact ⟨ad, e, trivial⟩)
          obtain ⟨c0, c1⟩ := words_at HW.out HBEL.out hgo2
          obtain ⟨f1, f2, f3⟩ := (hf _ (List.getElem_mem hgo)).at hgo2
          obtain ⟨⟨t, tc⟩, ht⟩ : ∃ p, LL[j][k] = p := ⟨_, rfl⟩
          rw [ht] at c0 c1 f1 f2 f3
          have HT := Lib.hid ht
          clear ht
          have HA : Hid (Cnt (wr.alloc (.cells #[.string t, .int .i64 tc] 30)) K b2 Y) := Lib.hid (HCN.out.below ((Below.refl _ wr).alloc (Nat.le_refl _) _))
          have HBA : Hid (Below w.heap.size w (wr.alloc (.cells #[.string t, .int .i64 tc] 30))) := Lib.hid (HBEL.out.alloc HBEL.out.size _)
          have hYl : Y.length ≤ 1000000 := by
            have := HL2.out
            rw [List.length_append] at this
            omega
          have HD := Lib.hid (List.drop_eq_getElem_cons hgo2)
          rw [HT.out] at HD
          go_wp2_with fail
          refine (cadd_any K b2 Y t tc _ HA.out f1 f2 f3 (by omega)).mono ?_
          rintro e w5 ⟨rfl, hr⟩
          have HR := Lib.hid (Own.next hb2 hK2 HBA.out hr)
          clear hr
          by_cases h0 : (addW Y t tc).2 = 0
          · have H0 := Lib.hid h0
            simp only [h0]
            clear h0
            go_wp2
            go_roundw
            case rel =>
              refine ⟨k + 1, (addW Y t tc).1, by simp, hgo2, ?_, ?_, HR.out⟩
              · have h1 := HL2.out
                have h2 := len_addW Y t tc
                rw [HD.out, List.cons_append, List.length_cons] at h1
                omega
              · rw [HM2.out, HD.out, List.cons_append, merge_ok (p := (t, tc)) H0.out]
            case measure => simp [intOf]; omega
          · have HE : Hid (mergeW [] LL.flatten = ([], (addW Y t tc).2)) := Lib.hid (by rw [HM2.out, HD.out, List.cons_append, merge_err (p := (t, tc)) h0])
            obtain ⟨z, hz⟩ : ∃ z, (addW Y t tc).2 = z := ⟨_, rfl⟩
            rw [hz] at h0 HE
            simp only [hz]
            clear hz
            go_wp2
            go_ret2
            obtain ⟨_, _, _, _, hb9⟩ := HR.out
            exact ⟨_, by rw [HE.out]; rfl, by rw [HE.out]; exact ownW.nil _ _, hb9⟩
        · have hkI : ¬ (k : Int) < (LL[j].length : Int) := by omega
          have HZ : Hid (LL[j].drop k = []) := Lib.hid (List.drop_eq_nil_of_le (by omega))
          go_wp2
          go_roundw
          case rel =>
            refine ⟨j + 1, Y, by simp, hgo, ?_, ?_, HO2.out⟩
            · have := HL2.out
              rwa [HZ.out, List.nil_append] at this
            · rw [HM2.out, HZ.out, List.nil_append]
          case measure => simp [intOf]; omega
    · have hjI : ¬ (j : Int) < (LL.length : Int) := by omega
      have HZ : Hid (LL.drop j = []) := Lib.hid (List.drop_eq_nil_of_le (by omega))
      have HE : Hid (mergeW [] LL.flatten = (X, 0)) := Lib.hid (by rw [HM.out, HZ.out]; rfl)
      obtain ⟨b, hcn, hb, hK2, hbel⟩ := HO.out
      have HCN := Lib.hid hcn; have HBEL := Lib.hid hbel
      clear hcn hbel
      have hXl : X.length ≤ 1000000 := by have := HL.out; omega
      go_wp2_with fail
      refine (freeze_any K b X _ HCN.out hXl).mono ?_
      rintro e w5 ⟨r5, rfl, ho5, hb5⟩
      have HO5 := Lib.hid ho5; have HB5 := Lib.hid hb5
      clear ho5 hb5
      go_wp2
      go_ret2
      exact ⟨_, by rw [HE.out]; rfl, by rw [HE.out]; exact HO5.out.mono HBEL.out.size, HBEL.out.trans (HB5.out.mono HBEL.out.size)⟩
end Go.Proofs.Ytikdhlpmoldijaa
