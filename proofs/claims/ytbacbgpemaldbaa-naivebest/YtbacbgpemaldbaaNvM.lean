/- NaiveGrows: with a greater budget the merges begin alike; with a greater least count, too. -/
import Derived.Test.YtbacbgpemaldbaaNvN
import Derived.Test.YtbacbgpemaldbaaIntE
namespace Go.Proofs.Ytbacbgpemaldbaa
open Go.RowKit

set_option maxRecDepth 100000 in
theorem nv_more {L : Bag} {b b' d d' : Int} {ms ks : List Mg} (hd : 1 ≤ d) (hd' : 1 ≤ d') (h1 : (((checkOf L).2 ≠ 0 ∨ d < 1) → ms = [])) (h2 : (checkOf L).2 = 0 → 1 ≤ d → Learned (startW L) (countsOf L) b d ms)
    (k1 : (((checkOf L).2 ≠ 0 ∨ d' < 1) → ks = [])) (k2 : (checkOf L).2 = 0 → 1 ≤ d' → Learned (startW L) (countsOf L) b' d' ks) (hb : b ≤ b') (hdd : d' ≤ d) : ms = ks.take ms.length ∧ ms.length ≤ ks.length := by
  by_cases he : (checkOf L).2 = 0
  · exact learned_more (h2 he hd) (k2 he hd') hb hdd
  · rw [h1 (.inl he), k1 (.inl he)]
    exact ⟨rfl, Nat.le_refl _⟩
set_option maxRecDepth 100000 in
theorem nv_len {L : Bag} {b d : Int} {ms : List Mg} (hd : 1 ≤ d) (h1 : (((checkOf L).2 ≠ 0 ∨ d < 1) → ms = [])) (h2 : (checkOf L).2 = 0 → 1 ≤ d → Learned (startW L) (countsOf L) b d ms) : (ms.length : Int) ≤ max b 0 := by
  by_cases he : (checkOf L).2 = 0
  · exact (h2 he hd).len
  · rw [h1 (.inl he)]
    simp
    omega
set_option maxRecDepth 100000 in
theorem sizeMerges (w : World) : (sizeOf (Try.prog.elem 25)).run Try.prog w = .ok 2 w := by
  obtain ⟨j0, hj, hy0, hy1, hy2⟩ := info_parts mergeE.info
  have he : Try.prog.elem 25 = mergeE.ty := by kernel_rfl
  rw [he]
  simp [sizeOf, typeInfo, hj, hy1]
  rfl
set_option maxRecDepth 100000 in
theorem elemMerges : Try.prog.underlying 25 = some (.slice (Try.prog.elem 25)) := by kernel_rfl
set_option maxRecDepth 100000 in
theorem merges_head (a : Option Addr) (len cap k : Nat) (K : Int) (hK : K = (k : Int)) (hk : k ≤ cap) : ∃ v, (∀ w, (Instr.slice 25 (.slice a len cap) none (some (.int .i64 K)) none).run Try.prog w = .ok v w) ∧
    ∀ w L, eltsAt mergeE w (.slice a len cap) L → k ≤ L.length → eltsAt mergeE w v (L.take k) := by
  subst hK
  refine ⟨sliced a 0 k cap 2, fun w => ?_, ?_⟩
  · rw [run_slice_h w 25 a len cap elemMerges .i64 k (by omega) (by omega), sizeMerges]
    simp
  · rintro w L ⟨a', cap', e, hc⟩ hkL
    obtain ⟨rfl, rfl, rfl⟩ := Value.slice.inj e
    unfold sliced
    refine ⟨_, cap - 0, by rw [List.length_take, Nat.min_eq_left hkL]; rfl, fun j hj => ?_⟩
    rw [List.length_take] at hj
    obtain ⟨ad, rfl, hlt, hcj⟩ := hc j (by omega)
    refine ⟨ad, ?_, hlt, fun i u hu => hcj i u ?_⟩
    · split <;> simp [add_zero_any]
    · rw [List.getElem_take] at hu; exact hu
set_option maxRecDepth 100000 in
set_option maxHeartbeats 8000000 in
theorem naiveGrows_over (hP : NLearns) (x : Value) (bu le mo : Int) (w : World) (L : Bag) (hx : wordsAt w x L) (hL : L.length ≤ 9223372036854775807) (hf : Fits L) (b0 : 0 ≤ bu) (b1 : bu ≤ 255) (d0 : 0 ≤ le) (d1 : le ≤ 255) (m0 : 0 ≤ mo) (m1 : mo ≤ 255) :
    Calls Try.prog 5 #[x, .int .u8 bu, .int .u8 le, .int .u8 mo] w fun e w' => e = .returned (.bool true) ∧ Below w.heap.size w w' := by
  have cA := nvawake_any hP w
  have hwb : IntKind.i64.wrap bu = bu := IntWalk.i64_in _ (by omega)
  have hwl : IntKind.i64.wrap le = le := IntWalk.i64_in _ (by omega)
  have hwm : IntKind.i64.wrap mo = mo := IntWalk.i64_in _ (by omega)
  have hw1 : IntKind.i64.wrap (1 + le) = 1 + le := IntWalk.i64_in _ (by omega)
  have hw2 : IntKind.i64.wrap (bu + mo) = bu + mo := IntWalk.i64_in _ (by omega)
  have hw3 : IntKind.i64.wrap (1 + le + mo) = 1 + le + mo := IntWalk.i64_in _ (by omega)
  have HX := Lib.hid hx
  have HF := Lib.hid hf
  have HP := Lib.hid hP
  have HR := Lib.hid (And.intro (And.intro b0 b1) (And.intro (And.intro d0 d1) (And.intro m0 m1)))
  clear hx hf hP b0 b1 d0 d1 m0 m1
  go_enter Try.func5, Try.ntmps5
  go_wp2_with fail
  refine cA.mono ?_
  rintro e w1 ⟨rfl, hb1⟩
  have HB1 := Lib.hid hb1
  have cG := nvgreat_any x L w1 (HX.out.below hb1 (Nat.le_refl _)) hL
  clear cA hb1
  go_wp2_with fail
  refine cG.mono ?_
  rintro e w2 ⟨g, rfl, rfl, hg⟩
  clear cG
  cases g with
  | true =>
    go_wp2
    go_ret
    exact ⟨rfl, HB1.out⟩
  | false =>
    obtain ⟨h60, h300⟩ := hg rfl
    have HFEW := Lib.hid (And.intro h60 h300)
    clear hg h60 h300
    have ask : Hid (∀ (bb dd : Int) (w' : World), Below w.heap.size w w' → (0 ≤ bb ∧ bb ≤ 600) → (0 ≤ dd ∧ dd ≤ 600) → Calls Try.prog 8 #[x, .int .i64 bb, .int .i64 dd] w' fun e w'' => LnPRet L bb dd w' e w'') :=
      Lib.hid fun bb dd w' hb h1 h2 => HP.out x L bb dd w' (HX.out.below hb (Nat.le_refl _)) HFEW.out.1 HF.out HFEW.out.2 ⟨by omega, by omega⟩ ⟨by omega, by omega⟩
    have hR := HR.out
    have cN := ask.out bu (1 + le) w2 HB1.out (by omega) (by omega)
    clear hR
    go_wp2_with fail
    refine cN.mono ?_
    rintro e w3 ⟨va, A, rfl, hva, hb3, a1, a2, acap⟩
    have HB3 := Lib.hid (HB1.out.trans (hb3.mono HB1.out.size))
    have HVA := Lib.hid hva
    have HA := Lib.hid (And.intro a1 a2)
    have hR := HR.out
    have cN2 := ask.out (bu + mo) (1 + le) w3 HB3.out (by omega) (by omega)
    clear cN hva hb3 a1 a2 hR
    go_wp2_with fail
    refine cN2.mono ?_
    rintro e w4 ⟨vb, B, rfl, hvb, hb4, a1, a2, bcap⟩
    have HB4 := Lib.hid (HB3.out.trans (hb4.mono HB3.out.size))
    have HVA4 := Lib.hid (HVA.out.below hb4 (Nat.le_refl _))
    have HVB := Lib.hid hvb
    have HBs := Lib.hid (And.intro a1 a2)
    have hR := HR.out
    have cN3 := ask.out bu (1 + le + mo) w4 HB4.out (by omega) (by omega)
    clear cN2 hvb hb4 a1 a2 hR
    go_wp2_with fail
    refine cN3.mono ?_
    rintro e w5 ⟨vc, C, rfl, hvc, hb5, a1, a2, ccap⟩
    have HB5 := Lib.hid (HB4.out.trans (hb5.mono HB4.out.size))
    have HVA5 := Lib.hid (HVA4.out.below hb5 (Nat.le_refl _))
    have HVB5 := Lib.hid (HVB.out.below hb5 (Nat.le_refl _))
    have HVC := Lib.hid hvc
    have HCs := Lib.hid (And.intro a1 a2)
    clear cN3 hvc hb5 a1 a2
    obtain ⟨aa, ca, rfl, _⟩ := HVA5.out
    obtain ⟨ab, cb, rfl, _⟩ := HVB5.out
    obtain ⟨ac, cc, rfl, _⟩ := HVC.out
    have hR := HR.out
    obtain ⟨eA, lA⟩ := nv_more (by omega) (by omega) HA.out.1 HA.out.2 HBs.out.1 HBs.out.2 (by omega) (by omega)
    obtain ⟨eC, lC⟩ := nv_more (by omega) (by omega) HCs.out.1 HCs.out.2 HA.out.1 HA.out.2 (by omega) (by omega)
    have lenA := nv_len (by omega) HA.out.1 HA.out.2
    have smA := (nv_small HFEW.out.2 HA.out.1 HA.out.2).1
    have dA : decide ((A.length : Int) ≤ bu) = true := decide_eq_true (by omega)
    have dB : decide ((A.length : Int) ≤ (B.length : Int)) = true := decide_eq_true (by omega)
    have dC : decide ((C.length : Int) ≤ (A.length : Int)) = true := decide_eq_true (by omega)
    have dB' : decide (A.length ≤ B.length) = true := decide_eq_true (by omega)
    have dC' : decide (C.length ≤ A.length) = true := decide_eq_true (by omega)
    have capA := acap _ _ _ rfl
    have capB := bcap _ _ _ rfl
    obtain ⟨s1, run1, at1⟩ := merges_head ab B.length cb A.length (A.length : Int) rfl (by omega)
    obtain ⟨s2, run2, at2⟩ := merges_head aa A.length ca C.length (C.length : Int) rfl (by omega)
    have t1 := at1 w5 B HVB5.out lA
    rw [← eA] at t1
    have cS := nvsame_true _ s1 A w5 HVA5.out t1 (by omega)
    have S2 : Hid (∀ w', Below w5.heap.size w5 w' → Calls Try.prog 9 #[.slice ac C.length cc, s2] w' fun e w'' => e = .returned (.bool true) ∧ Below w'.heap.size w' w'') := Lib.hid fun w' hb => by
      have t2 := at2 w' A (HVA5.out.below hb (Nat.le_refl _)) lC
      rw [← eC] at t2
      exact nvsame_true _ s2 C w' (HVC.out.below hb (Nat.le_refl _)) t2 (by omega)
    clear hR eA lA eC lC lenA smA capA capB acap bcap ccap at1 at2 t1
    go_wp2_with fail
    refine cS.mono ?_
    rintro e w6 ⟨rfl, hb6⟩
    have HB6 := Lib.hid (HB5.out.trans (hb6.mono HB5.out.size))
    have cS2 := S2.out w6 hb6
    clear cS hb6
    go_wp2_with fail
    refine cS2.mono ?_
    rintro e w7 ⟨rfl, hb7⟩
    have HB7 := Lib.hid (HB6.out.trans (hb7.mono HB6.out.size))
    have cN := ask.out 0 1 w7 HB7.out (by omega) (by omega)
    clear cS2 hb7
    go_wp2_with fail
    refine cN.mono ?_
    rintro e w8 ⟨vd, D, rfl, hvd, hb8, a1, a2, _⟩
    obtain rfl : D = [] := by
      have := nv_len (by omega) a1 a2
      exact List.length_eq_zero_iff.1 (by omega)
    obtain ⟨ad, cd, rfl, _⟩ := hvd
    have HB8 := Lib.hid (HB7.out.trans (hb8.mono HB7.out.size))
    have cN4 := ask.out 5 0 w8 HB8.out (by omega) (by omega)
    clear cN hb8 a1 a2
    go_wp2_with fail
    refine cN4.mono ?_
    rintro e w9 ⟨ve, E, rfl, hve, hb9, a1, a2, _⟩
    obtain rfl : E = [] := a1 (.inr (by omega))
    obtain ⟨ae, ce, rfl, _⟩ := hve
    have HB9 := Lib.hid (HB8.out.trans (hb9.mono HB8.out.size))
    clear cN4 hb9 a1 a2
    go_wp2
    go_ret
    exact ⟨rfl, HB9.out⟩
end Go.Proofs.Ytbacbgpemaldbaa
