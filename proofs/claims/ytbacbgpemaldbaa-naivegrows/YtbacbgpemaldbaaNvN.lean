/- NaiveLearns: what is learnt is what the document says, and right. -/
import Derived.Test.YtbacbgpemaldbaaNvA
namespace Go.Proofs.Ytbacbgpemaldbaa
open Go.RowKit

set_option maxRecDepth 100000 in
/-- Where nothing is learnt, or just what counting anew learns. -/
theorem nv_right {L : Bag} {budget least : Int} {ms : List Mg} (h1 : (((checkOf L).2 ≠ 0 ∨ least < 1) → ms = [])) (h2 : (checkOf L).2 = 0 → 1 ≤ least → Learned (startW L) (countsOf L) budget least ms) : RightM ms := by
  by_cases hb : (checkOf L).2 ≠ 0 ∨ least < 1
  · rw [h1 hb]
    exact fun j hj => by simp at hj
  · have hl : 1 ≤ least := by
      refine Classical.byContradiction fun hc => hb (.inr (by omega))
    have he : (checkOf L).2 = 0 := Classical.byContradiction fun hc => hb (.inl hc)
    have h3 := h2 he hl
    refine learned_right (start_one L) fun i hi => ?_
    obtain ⟨n, a1, a2⟩ := h3.each i hi
    exact a1.some (by omega)
set_option maxRecDepth 100000 in
theorem nv_same {L : Bag} {budget least : Int} {ms ks : List Mg} (h1 : (((checkOf L).2 ≠ 0 ∨ least < 1) → ms = [])) (h2 : (checkOf L).2 = 0 → 1 ≤ least → Learned (startW L) (countsOf L) budget least ms)
    (k1 : (((checkOf L).2 ≠ 0 ∨ least < 1) → ks = [])) (k2 : (checkOf L).2 = 0 → 1 ≤ least → Learned (startW L) (countsOf L) budget least ks) : ms = ks := by
  by_cases hb : (checkOf L).2 ≠ 0 ∨ least < 1
  · rw [h1 hb, k1 hb]
  · have hl : 1 ≤ least := by
      refine Classical.byContradiction fun hc => hb (.inr (by omega))
    have he : (checkOf L).2 = 0 := Classical.byContradiction fun hc => hb (.inl hc)
    exact learned_uni (h2 he hl) (k2 he hl)
set_option maxRecDepth 100000 in
/-- What is learnt is short, and of short texts. -/
theorem nv_small {L : Bag} {budget least : Int} {ms : List Mg} {n : Nat} (hn : bytesOf L ≤ n) (h1 : (((checkOf L).2 ≠ 0 ∨ least < 1) → ms = [])) (h2 : (checkOf L).2 = 0 → 1 ≤ least → Learned (startW L) (countsOf L) budget least ms) : ms.length ≤ n ∧ ∀ m ∈ ms, m.1.size ≤ n ∧ m.2.size ≤ n := by
  by_cases hb : (checkOf L).2 ≠ 0 ∨ least < 1
  · rw [h1 hb]
    exact ⟨by simp, fun m hm => by simp at hm⟩
  · have hl : 1 ≤ least := by
      refine Classical.byContradiction fun hc => hb (.inr (by omega))
    have he : (checkOf L).2 = 0 := Classical.byContradiction fun hc => hb (.inl hc)
    have h3 := h2 he hl
    have h4 := learned_short (C := countsOf L) hl h3.each ms.length (Nat.le_refl _)
    rw [start_all] at h4
    refine ⟨by omega, fun m hm => ?_⟩
    obtain ⟨i, hi, rfl⟩ := List.getElem_of_mem hm
    obtain ⟨k, a1, a2⟩ := h3.each i hi
    obtain ⟨w, hw, hc⟩ := a1.some (by omega)
    obtain ⟨P, Q, e⟩ := cnt_stands hc
    exact ⟨run_small hn _ w hw _ (by rw [e]; simp), run_small hn _ w hw _ (by rw [e]; simp)⟩
set_option maxRecDepth 100000 in
set_option maxHeartbeats 8000000 in
theorem naiveLearns_over (hP : NLearns) (x : Value) (budget least : Int) (w : World) (L : Bag) (hx : wordsAt w x L) (hL : L.length ≤ 9223372036854775807) (hf : Fits L) (hb : FitsB budget) (hd : FitsB least) :
    Calls Try.prog 3 #[x, .int .i64 budget, .int .i64 least] w fun e w' => e = .returned (.bool true) ∧ Below w.heap.size w w' := by
  have cA := nvawake_any hP w
  have HX := Lib.hid hx
  have HF := Lib.hid hf
  have HP := Lib.hid hP
  clear hx hf hP
  go_enter Try.func3, Try.ntmps3
  go_wp2_with fail
  refine cA.mono ?_
  rintro e w1 ⟨rfl, hb1⟩
  have HB1 := Lib.hid hb1
  have cG := nvgreat_any x L w1 (HX.out.below hb1 (Nat.le_refl _)) hL
  clear cA hb1
  go_wp2_with fail
  refine cG.mono ?_
  rintro e w2 ⟨g, rfl, rfl, hg⟩
  clear cG
  cases g with
  | true =>
    go_wp2
    go_ret
    exact ⟨rfl, HB1.out⟩
  | false =>
    obtain ⟨h60, h300⟩ := hg rfl
    have cN := HP.out x L budget least w2 (HX.out.below HB1.out (Nat.le_refl _)) h60 HF.out h300 hb hd
    have HFEW := Lib.hid (And.intro h60 h300)
    clear hg h60 h300
    go_wp2_with fail
    refine cN.mono ?_
    rintro e w3 ⟨v, ms, rfl, hv, hb3, h1, h2, _⟩
    have hb3' := HB1.out.trans (hb3.mono HB1.out.size)
    have cR := rlearn_any x L budget least w3 (HX.out.below hb3' (Nat.le_refl _)) (by have := HFEW.out.1; omega) HF.out (by have := HFEW.out.2; omega)
    have HV := Lib.hid hv
    have HB3 := Lib.hid hb3'
    have H12 := Lib.hid (And.intro h1 h2)
    clear cN hv hb3 hb3' h1 h2
    go_wp2_with fail
    refine cR.mono ?_
    rintro e w4 ⟨v4, ks, rfl, hv4, hb4, k1, k2⟩
    obtain rfl : ms = ks := nv_same H12.out.1 H12.out.2 k1 k2
    have HSM := Lib.hid (nv_small HFEW.out.2 H12.out.1 H12.out.2)
    have cS := nvsame_true v v4 ms w4 (HV.out.below hb4 (Nat.le_refl _)) hv4.reads (by have := HSM.out.1; omega)
    have HV4 := Lib.hid (HV.out.below hb4 (Nat.le_refl _))
    have HB4 := Lib.hid (HB3.out.trans (hb4.mono HB3.out.size))
    clear cR hv4 hb4 k1 k2
    go_wp2_with fail
    refine cS.mono ?_
    rintro e w5 ⟨rfl, hb5⟩
    have cT := rright_any v ms w5 (HV4.out.below hb5 (Nat.le_refl _)) (by have := HSM.out.1; omega) (fun m hm => by have := HSM.out.2 m hm; omega)
    have HB5 := Lib.hid (HB4.out.trans (hb5.mono HB4.out.size))
    clear cS hb5
    go_wp2_with fail
    refine cT.mono ?_
    rintro e w6 ⟨f, rfl, hfr, hb6⟩
    obtain rfl : f = true := hfr.2 (nv_right H12.out.1 H12.out.2)
    have HB6 := Lib.hid (HB5.out.trans (hb6.mono HB5.out.size))
    clear cT hfr hb6
    go_wp2
    go_ret
    exact ⟨rfl, HB6.out⟩
end Go.Proofs.Ytbacbgpemaldbaa
