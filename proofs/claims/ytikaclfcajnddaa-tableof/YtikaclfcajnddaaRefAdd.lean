/- The document's own Add. -/
import Derived.Test.YtikaclfcajnddaaSame
import Derived.Test.YtikaclfcajnddaaPair
namespace Go.Proofs.Ytikaclfcajnddaa
open Go.RowKit

def refTo (s : ByteArray) (c : Int) (L : Bag) (k : Nat) : Bag × Bool := (L.take k).foldl (refStep s c) ([], false)
theorem refTo_next (s : ByteArray) (c : Int) (L : Bag) {k : Nat} (hk : k < L.length) : refTo s c L (k + 1) = refStep s c (refTo s c L k) L[k] := by
  unfold refTo
  rw [List.take_succ_eq_append_getElem hk, List.foldl_append]; rfl
theorem refTo_end (s : ByteArray) (c : Int) {L : Bag} (hr : Rising L) {k : Nat} (hk : L.length ≤ k) : refEnd s c (refTo s c L k) = putW s c L := by
  unfold refTo
  rw [List.take_of_length_le hk, ref_put s c L [] hr]; rfl
theorem step_len (s : ByteArray) (c : Int) (a : Bag × Bool) (p : ByteArray × Int) : (refStep s c a p).1.length + (if (refStep s c a p).2 then 0 else 1) ≤ a.1.length + (if a.2 then 0 else 1) + 1 := by
  obtain ⟨A, d⟩ := a
  unfold refStep
  cases d <;> cases ahead p.1 s <;> by_cases e : p.1 = s <;> simp [e]
theorem refTo_len (s : ByteArray) (c : Int) (L : Bag) : ∀ k, k ≤ L.length → (refTo s c L k).1.length + (if (refTo s c L k).2 then 0 else 1) ≤ k + 1
  | 0, _ => by simp [refTo]
  | k + 1, h => by
    rw [refTo_next s c L h]
    have := step_len s c (refTo s c L k) L[k]
    have := refTo_len s c L k (by omega)
    omega
theorem step_true_same {s t : ByteArray} {c tc : Int} {A : Bag} (h : t = s) : refStep s c (A, true) (t, tc) = (A, true) := by simp [refStep, h]
theorem step_true_other {s t : ByteArray} {c tc : Int} {A : Bag} (h : t ≠ s) : refStep s c (A, true) (t, tc) = (A ++ [(t, tc)], true) := by simp [refStep, h]
theorem step_false_ahead {s t : ByteArray} {c tc : Int} {A : Bag} (h : ahead t s = true) : refStep s c (A, false) (t, tc) = (A ++ [(t, tc)], false) := by simp [refStep, h, ahead_ne h]
theorem step_false_same {s t : ByteArray} {c tc : Int} {A : Bag} (h : t = s) : refStep s c (A, false) (t, tc) = (A ++ [(s, c)], true) := by simp [refStep, h, ahead_irrefl]
theorem step_false_other {s t : ByteArray} {c tc : Int} {A : Bag} (h : ahead t s = false) (k : t ≠ s) : refStep s c (A, false) (t, tc) = (A ++ [(s, c)] ++ [(t, tc)], true) := by simp [refStep, h, k]
def RAddRel (L : Bag) (s : ByteArray) (c : Int) (w : World) (o d i : Value) (wr : World) : Prop :=
  ∃ k : Nat, i = .int .i64 (k : Int) ∧ k ≤ L.length ∧ d = .bool (refTo s c L k).2 ∧ ownW wr w.heap.size o (refTo s c L k).1 ∧ Below w.heap.size w wr
theorem raddRel_step {L A : Bag} {s : ByteArray} {c : Int} {w wr : World} {o : Value} {k : Nat} {d : Bool} (hk : k < L.length) (h : refTo s c L (k + 1) = (A, d)) (ho : ownW wr w.heap.size o A) (hb : Below w.heap.size w wr) : RAddRel L s c w o (.bool d) (.int .i64 ((k : Int) + 1)) wr :=
  ⟨k + 1, by simp, hk, by rw [h], by rw [h]; exact ho, hb⟩
/-- What the document's Add leaves. -/
def RAddRet (B : Nat) (L : Bag) (s : ByteArray) (n : Int) (w : World) (e : Ending) (w' : World) : Prop := ∃ r, e = .returned (.tuple #[r, .int .i64 (addW L s n).2]) ∧ ownW w' B r (addW L s n).1 ∧ Below w.heap.size w w'
set_option maxRecDepth 100000 in
set_option maxHeartbeats 4000000 in
theorem radd_any (B : Nat) (v : Value) (L : Bag) (s : ByteArray) (n : Int) (w : World) (hv : ownW w B v L) (hL : Sound L) (hB : B ≤ w.heap.size) (hl : L.length ≤ 1000000) (hs : s.size ≤ 9223372036854775807) (n0 : -9223372036854775808 ≤ n) (n1 : n ≤ 9223372036854775807) :
    Calls Try.prog 28 #[v, .string s, .int .i64 n] w fun e w' => RAddRet B L s n w e w' := by
  have HO := Lib.hid hv
  have HV := Lib.hid hv.reads
  have HS := Lib.hid hL
  obtain ⟨a, cap, rfl, _⟩ := hv.form
  clear hv hL
  by_cases he : s.size = 0
  · obtain rfl : s = ⟨#[]⟩ := empty_of (List.eq_nil_of_length_eq_zero (by rw [bs_size]; exact he))
    go_enter Try.func28, Try.ntmps28
    go_wp2
    go_ret2
    exact ⟨_, by rw [addW_arg (.inl he)]; rfl, by rw [addW_arg (.inl he)]; exact HO.out, Below.refl _ _⟩
  · have hs' : s.toList.isEmpty = false := some_text fun e => he (by rw [← bs_size, e]; rfl)
    by_cases hn : n < 1
    · go_enter Try.func28, Try.ntmps28
      go_wp2
      go_ret2
      exact ⟨_, by rw [addW_arg (.inr hn)]; rfl, by rw [addW_arg (.inr hn)]; exact HO.out, Below.refl _ _⟩
    · obtain ⟨k0, k1⟩ := HS.out.count s
      have cC := fun w h => rcount_any (.slice a L.length cap) L s w h (by omega)
      have cA := fun w => refAdd_any (countOf L s) n w (by omega) k1 n0 n1
      by_cases hk : countOf L s + n ≤ 9223372036854775807
      · rw [addOf_yes k0 (by omega) hk] at cA
        have HK := Lib.hid hk
        have HE : Hid (addW L s n = (putW s (countOf L s + n) L, 0)) := Lib.hid (addW_ok (by omega) hk)
        obtain ⟨c, hc⟩ : ∃ c, countOf L s + n = c := ⟨_, rfl⟩
        rw [hc] at cA
        have HC := Lib.hid hc
        clear hk hc
        go_enter Try.func28, Try.ntmps28
        go_wp2_with fail
        refine (cC _ HV.out).mono ?_
        rintro e w1 ⟨rfl, rfl⟩
        go_wp2_with fail
        refine (cA _).mono ?_
        rintro e w2 ⟨rfl, rfl⟩
        go_wp2
        go_loopw [10, 11, 12] (fun o d i wr => RAddRel L s c w2 o d i wr) (fun _ _ i _ => L.length + 1 - (intOf i).toNat)
        case atStart => exact ⟨0, rfl, by omega, rfl, ownW.nil _ _, Below.refl _ _⟩
        case round =>
          obtain ⟨k, rfl, hkl, rfl, hown, hbel⟩ := hrel
          have HB2 := Lib.hid hbel
          have hlen := refTo_len s c L k hkl
          by_cases hgo : k < L.length
          · have hkI : (k : Int) < (L.length : Int) := by omega
            have HNX := Lib.hid (refTo_next s c L hgo)
            obtain ⟨ad, rfl, _, _, _⟩ := (show ∃ ad, a = some ad ∧ True ∧ True ∧ True by obtain ⟨a', c', e, hc⟩ := HV.out; cases e; obtain ⟨ad, e, _⟩ := hc k hgo; exact ⟨ad, e, trivial, trivial, trivial⟩)
            obtain ⟨c0, c1⟩ := words_at HV.out HB2.out hgo
            have hts := (HS.out.2 _ (List.getElem_mem hgo)).2.2
            obtain ⟨⟨A, d⟩, hst⟩ : ∃ st, refTo s c L k = st := ⟨_, rfl⟩
            rw [hst] at HNX hown hlen
            obtain ⟨⟨t, tc⟩, htt⟩ : ∃ p, L[k] = p := ⟨_, rfl⟩
            rw [htt] at HNX c0 c1 hts
            have HO2 := Lib.hid hown
            have HLEN := Lib.hid hlen
            have HST := Lib.hid hst
            have HTT := Lib.hid htt
            simp only [hst]
            clear hown hbel hlen hst htt
            cases d with
            | true =>
              have hAl : A.length ≤ 1000001 := by have := HLEN.out; simp at this; omega
              by_cases hts2 : t = s
              · subst hts2
                rw [step_true_same rfl] at HNX
                go_wp2
                go_roundw
                case rel => exact raddRel_step hgo HNX.out HO2.out HB2.out
                case measure => simp [intOf]; omega
              · have ht' := text_ne hts2
                rw [step_true_other hts2] at HNX
                go_wp2_with (at_builtin; refine wpList_append_words rfl (.tmp 62) (.tmp 67) rfl w2.heap.size _ _ A [(t, tc)] rfl rfl (HO2.out.alloc _) (one_word wr _ _) (fun n c e => by cases e) (by simp; omega) (size_alloc_le HB2.out _) ?_; intro r5 w5 hown5 hg5 _; have HO5 := Lib.hid hown5; have HB5 := Lib.hid (more_below HO2.out HB2.out hg5); clear hown5 hg5)
                go_roundw
                case rel => exact raddRel_step hgo HNX.out HO5.out HB5.out
                case measure => simp [intOf]; omega
            | false =>
              have hAl : A.length ≤ 1000000 := by have := HLEN.out; simp at this; omega
              go_wp2_with fail
              refine (less_any t s _ hts hs).mono ?_
              rintro e w3 ⟨rfl, m3, hw3⟩
              have HO3 : Hid (ownW w3 w2.heap.size u10 A) := Lib.hid (by rw [hw3]; exact HO2.out)
              have HB3 : Hid (Below w2.heap.size w2 w3) := Lib.hid (by rw [hw3]; exact below_drewN' HB2.out m3)
              replace c0 : w3.cell? (ad.add (k * 2)) = some (.string t) := by rw [hw3]; exact c0
              replace c1 : w3.cell? ⟨(ad.add (k * 2)).block, (ad.add (k * 2)).off + 1, none⟩ = some (.int .i64 tc) := by rw [hw3]; exact c1
              clear hw3 HO2 HB2
              cases hah : ahead t s
              · by_cases hts2 : t = s
                · subst hts2
                  rw [step_false_same rfl] at HNX
                  go_wp2_with (first | at_builtin; refine wpList_append_words rfl (.tmp 49) (.tmp 53) rfl w2.heap.size _ _ A [(t, c)] rfl rfl (HO3.out.alloc _) (one_word w3 _ _) (fun n c e => by cases e) (by simp; omega) (size_alloc_le HB3.out _) ?_; intro r5 w5 hown5 hg5 _; have HO5 := Lib.hid hown5; have HB5 := Lib.hid (more_below HO3.out HB3.out hg5); clear hown5 hg5; obtain ⟨c5, d5⟩ := words_at HV.out HB5.out hgo; rw [HTT.out] at c5 d5)
                  go_roundw
                  case rel => exact raddRel_step hgo HNX.out HO5.out HB5.out
                  case measure => simp [intOf]; omega
                · have ht' := text_ne hts2
                  rw [step_false_other hah hts2] at HNX
                  clear hah
                  go_wp2_with (at_builtin; first | (refine wpList_append_words rfl (.tmp 49) (.tmp 53) rfl w2.heap.size _ _ A [(s, c)] rfl rfl (HO3.out.alloc _) (one_word w3 _ _) (fun n c e => by cases e) (by simp; omega) (size_alloc_le HB3.out _) ?_; intro r5 w5 hown5 hg5 _; have HO5 := Lib.hid hown5; have HB5 := Lib.hid (more_below HO3.out HB3.out hg5); clear hown5 hg5; obtain ⟨c5, d5⟩ := words_at HV.out HB5.out hgo; rw [HTT.out] at c5 d5) | (refine wpList_append_words rfl (.tmp 62) (.tmp 67) rfl w2.heap.size _ _ (A ++ [(s, c)]) [(t, tc)] rfl rfl (HO5.out.alloc _) (one_word w5 _ _) (fun n c e => by cases e) (by simp; omega) (size_alloc_le HB5.out _) ?_; intro r6 w6 hown6 hg6 _; have HO6 := Lib.hid hown6; have HB6 := Lib.hid (more_below HO5.out HB5.out hg6); clear hown6 hg6))
                  go_roundw
                  case rel => exact raddRel_step hgo HNX.out HO6.out HB6.out
                  case measure => simp [intOf]; omega
              · have ht' := text_ne (ahead_ne hah)
                rw [step_false_ahead hah] at HNX
                clear hah
                go_wp2_with (at_builtin; refine wpList_append_words rfl (.tmp 62) (.tmp 67) rfl w2.heap.size _ _ A [(t, tc)] rfl rfl (HO3.out.alloc _) (one_word w3 _ _) (fun n c e => by cases e) (by simp; omega) (size_alloc_le HB3.out _) ?_; intro r5 w5 hown5 hg5 _; have HO5 := Lib.hid hown5; have HB5 := Lib.hid (more_below HO3.out HB3.out hg5); clear hown5 hg5)
                go_roundw
                case rel => exact raddRel_step hgo HNX.out HO5.out HB5.out
                case measure => simp [intOf]; omega
          · have hkI : ¬ (k : Int) < (L.length : Int) := by omega
            have HF := Lib.hid (refTo_end s c HS.out.1 (k := k) (by omega))
            obtain ⟨⟨A, d⟩, hst⟩ : ∃ st, refTo s c L k = st := ⟨_, rfl⟩
            rw [hst] at HF hown hlen
            have HO2 := Lib.hid hown
            have HLEN := Lib.hid hlen
            simp only [hst]
            clear hown hbel hlen hst
            cases d with
            | true =>
              go_wp2
              go_ret2
              refine ⟨_, by rw [HE.out]; rfl, ?_, HB2.out⟩
              rw [HE.out, HC.out, ← HF.out]
              exact HO2.out.mono hB
            | false =>
              have hAl : A.length ≤ 1000001 := by have := HLEN.out; simp at this; omega
              go_wp2_with (at_builtin; refine wpList_append_words rfl (.tmp 71) (.tmp 75) rfl w2.heap.size _ _ A [(s, c)] rfl rfl (HO2.out.alloc _) (one_word wr _ _) (fun n c e => by cases e) (by simp; omega) (size_alloc_le HB2.out _) ?_; intro r5 w5 hown5 hg5 _; have HO5 := Lib.hid hown5; have HB5 := Lib.hid (more_below HO2.out HB2.out hg5); clear hown5 hg5)
              go_ret2
              refine ⟨_, by rw [HE.out]; rfl, ?_, HB5.out⟩
              rw [HE.out, HC.out, ← HF.out]
              exact HO5.out.mono hB
      · have HE := Lib.hid (addW_over (L := L) (s := s) (n := n) (by omega) hk)
        rw [addOf_no fun k => hk k.2.2] at cA
        clear hk
        go_enter Try.func28, Try.ntmps28
        go_wp2_with fail
        refine (cC _ HV.out).mono ?_
        rintro e w1 ⟨rfl, rfl⟩
        go_wp2_with fail
        refine (cA _).mono ?_
        rintro e w2 ⟨rfl, rfl⟩
        go_wp2
        go_ret2
        exact ⟨_, by rw [HE.out]; rfl, by rw [HE.out]; exact HO.out, Below.refl _ _⟩
end Go.Proofs.Ytikaclfcajnddaa
