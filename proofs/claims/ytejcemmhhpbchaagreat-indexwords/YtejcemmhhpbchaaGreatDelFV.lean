/- maps.DeleteFunc at the counts that were: what is as it was is struck. -/
import Derived.Test.YtejcemmhhpbchaaGreatGH
namespace Go.Proofs.YtejcemmhhpbchaaGreat
open Go.RowKit Go.Maps

set_option maxRecDepth 100000 in
theorem dclosure_any (p q c : Int) (C K : Nat) (m : Option Nat) (L : Cn) (w : World) (hc : w.cell? ⟨C, 0, none⟩ = some (.pointer (some ⟨K, 0, none⟩))) (h : Cts w K m L) (hp : FitsPr (p, q)) (hC : C < w.heap.size) :
    Calls Tryz.prog 66 #[.agg #[.int .i64 p, .int .i64 q], .int .i64 c, .pointer (some ⟨C, 0, none⟩)] w fun e w' => e = .returned (.bool (c == getC L (p, q))) ∧ Below w.heap.size w w' := by
  obtain ⟨w1, hw1⟩ : ∃ w1, w1 = w.alloc (.cells #[.int .i64 p, .int .i64 q] 37) := ⟨_, rfl⟩
  have HB1 : Hid (Below w.heap.size w w1) := Lib.hid (by rw [hw1]; exact (Below.refl _ w).alloc (Nat.le_refl _) _)
  have b0 : w1.cell? ⟨w.heap.size, 0, none⟩ = some (.int .i64 p) := by rw [hw1]; simp
  have b1 : w1.cell? ⟨w.heap.size, 1, none⟩ = some (.int .i64 q) := by rw [hw1]; simp
  have c1 : w1.cell? ⟨C, 0, none⟩ = some (.pointer (some ⟨K, 0, none⟩)) := (HB1.out.cell hC).trans hc
  have cG := dget_any K m L p q w1 (h.below HB1.out) hp
  have hw' := hw1.symm
  generalize getC L (p, q) = g at *
  clear h hc hw1 hp
  go_enter Tryz.func66, Tryz.ntmps66
  go_wp2_with fail
  clear hw'
  refine cG.mono ?_
  rintro e w2 ⟨rfl, hw2⟩
  have HB2 : Hid (Below w.heap.size w w2) := Lib.hid (by rw [hw2]; exact (HB1.out.alloc HB1.out.size _).drew)
  clear hw2
  go_wp2
  go_ret
  exact ⟨rfl, HB2.out⟩
def DelRel (w : World) (b r n : Nat) (W0 L : Cn) (wr : World) : Prop :=
  ∃ (left : Lit → Bool) (cnt : Nat) (D : DataW Unit) (M : Cn), wr.ranges Tryz.prog 37 (plainElem Tryz.prog 3) b r n D left cnt ∧ ReadsC D M ∧ (∀ x, x ∈ M ↔ x ∈ W0 ∧ (left (pk x.1) = true ∨ x.2 ≠ getC L x.1)) ∧ Kept (fun k => k = b) w wr
set_option maxRecDepth 100000 in
/-- What is told of a pair that is still to come. -/
theorem told_at {D : DataW Unit} {M : Cn} (hD : ReadsC D M) {p : Int × Int} {c : Int} (hp : FitsPr p) (hat : ∀ zd, D.atKey (pk p) zd = .lit (.int .i64 c)) : (p, c) ∈ M := by
  have h1 := hD.tell p hp
  rw [hat] at h1
  have hc : c = getC M p := by cases h1; rfl
  have h2 := hD.has p hp
  rw [has_true_of_atKey hat] at h2
  rw [hc]
  exact get_in h2.symm
set_option maxRecDepth 100000 in
theorem left_same {left : Lit → Bool} {p q : Int × Int} (hp : FitsPr p) (hq : FitsPr q) : (left (pk q) && !(pk q).sameKey (pk p)) = true ↔ left (pk q) = true ∧ q ≠ p := by
  by_cases e : q = p
  · subst e
    rw [WideAt.sameKey_self (pk_key _)]; simp
  · rw [sameKey_ne fun k => e (pk_inj hq hp k)]; simp [e]
set_option maxRecDepth 100000 in
theorem del_stays {W0 L M : Cn} {left : Lit → Bool} {p : Int × Int} {c : Int} (hW : RisC W0) (hf : ∀ x ∈ W0, FitsPr x.1) (hM : ∀ x, x ∈ M ↔ x ∈ W0 ∧ (left (pk x.1) = true ∨ x.2 ≠ getC L x.1)) (hp : FitsPr p) (hpc : (p, c) ∈ M) (hne : c ≠ getC L p) :
    ∀ x, x ∈ M ↔ x ∈ W0 ∧ ((left (pk x.1) && !(pk x.1).sameKey (pk p)) = true ∨ x.2 ≠ getC L x.1) := by
  have hpW := ((hM _).1 hpc).1
  intro x
  rw [hM]
  constructor
  · rintro ⟨h1, h2⟩
    refine ⟨h1, ?_⟩
    by_cases e : x.1 = p
    · have hx : x.2 = c := by
        have a1 := get_mem (c := x.2) hW (show (x.1, x.2) ∈ W0 from h1)
        have a2 := get_mem hW hpW
        rw [e, a2] at a1
        exact a1.symm
      exact .inr (by rw [hx, e]; exact hne)
    · rcases h2 with h2 | h2
      · exact .inl ((left_same hp (hf x h1)).2 ⟨h2, e⟩)
      · exact .inr h2
  · rintro ⟨h1, h2⟩
    refine ⟨h1, ?_⟩
    rcases h2 with h2 | h2
    · exact .inl ((left_same hp (hf x h1)).1 h2).1
    · exact .inr h2
set_option maxRecDepth 100000 in
theorem del_struck {W0 L M : Cn} {left : Lit → Bool} {p : Int × Int} {c : Int} (hW : RisC W0) (hf : ∀ x ∈ W0, FitsPr x.1) (hM : ∀ x, x ∈ M ↔ x ∈ W0 ∧ (left (pk x.1) = true ∨ x.2 ≠ getC L x.1)) (hp : FitsPr p) (hpc : (p, c) ∈ M) (he : c = getC L p) :
    ∀ x, x ∈ delC M p ↔ x ∈ W0 ∧ ((left (pk x.1) && !(pk x.1).sameKey (pk p)) = true ∨ x.2 ≠ getC L x.1) := by
  have hpW := ((hM _).1 hpc).1
  intro x
  rw [del_mem, hM]
  constructor
  · rintro ⟨⟨h1, h2⟩, e⟩
    refine ⟨h1, ?_⟩
    rcases h2 with h2 | h2
    · exact .inl ((left_same hp (hf x h1)).2 ⟨h2, e⟩)
    · exact .inr h2
  · rintro ⟨h1, h2⟩
    rcases h2 with h2 | h2
    · obtain ⟨h3, e⟩ := (left_same hp (hf x h1)).1 h2
      exact ⟨⟨h1, .inl h3⟩, e⟩
    · refine ⟨⟨h1, .inr h2⟩, fun e => h2 ?_⟩
      have a1 := get_mem (c := x.2) hW (show (x.1, x.2) ∈ W0 from h1)
      have a2 := get_mem hW hpW
      rw [e, a2] at a1
      rw [e, ← he, a1]
/-- What stands where nothing but the map is turned. -/
structure DEnv (w : World) (C K b : Nat) (m : Option Nat) (L : Cn) : Prop where
  cell : w.cell? ⟨C, 0, none⟩ = some (.pointer (some ⟨K, 0, none⟩))
  cts : Cts w K m L
  lt : C < w.heap.size
  ne : C ≠ b
  apart : ¬ dmineC K m b
set_option maxRecDepth 100000 in
theorem DEnv.kept {w w' : World} {C K b : Nat} {m : Option Nat} {L : Cn} (h : DEnv w C K b m L) (hk : Kept (fun k => k = b) w w') : DEnv w' C K b m L :=
  ⟨(World.cell?_of_block (hk.block C h.lt h.ne)).trans h.cell, h.cts.kept fun k hlt hm => hk.block k hlt fun e => by subst e; exact h.apart hm, Nat.lt_of_lt_of_le h.lt hk.size, h.ne, h.apart⟩
def DelRet (w : World) (b : Nat) (W0 L : Cn) (w' : World) : Prop := ∃ M, CMap w' b M ∧ (∀ x, x ∈ M ↔ x ∈ W0 ∧ x.2 ≠ getC L x.1) ∧ Kept (fun k => k = b) w w'
set_option maxRecDepth 100000 in
set_option maxHeartbeats 4000000 in
theorem delf_any (b C K : Nat) (m : Option Nat) (W0 L : Cn) (w : World) (hW : CMap w b W0) (hE : DEnv w C K b m L) :
    Calls Tryz.prog 65 #[.map (some b), .func (.func 66) #[] #[.pointer (some ⟨C, 0, none⟩)]] w fun e w' => e = .returned (.tuple #[]) ∧ DelRet w b W0 L w' := by
  have eg : ∀ args w, (callFunc 66 args).run Tryz.prog w = .ok (.enter 66 args) w := enters_of Tryz.func66 (by kernel_rfl) rfl
  have HRW := Lib.hid (CMap.ris hW); have HFW := Lib.hid (fun x hx => (CMap.fits hW x hx).1)
  have HE := Lib.hid hE
  have hblt := CMap.lt hW
  obtain ⟨D0, hown, hrd⟩ := hW
  have HD0 := Lib.hid hrd
  obtain ⟨w0, hrng, hrg0, hg0, hs0⟩ := World.ownsMap.range (w := w) hown lawP Tryz.underlying89
  have HR0 := Lib.hid hrg0; have HG0 := Lib.hid hg0
  obtain ⟨r, hr⟩ : ∃ r, w.heap.size = r := ⟨_, rfl⟩
  have HRR := Lib.hid hr
  rw [hr] at hrng HR0
  obtain ⟨n, hn⟩ : ∃ n, W0.length = n := ⟨_, rfl⟩
  rw [hn] at HR0
  clear hr hrg0 hg0 hs0 hown hrd hE hn
  go_enter Tryz.func65, Tryz.ntmps65
  go_wp2
  go_loopw [] (fun wr => DelRel w b r n W0 L wr) (fun wr => wr.rangeLeft b r)
  case atStart =>
    refine ⟨_, _, D0, W0, HR0.out, HD0.out, fun x => ⟨fun h => ⟨h, .inl ?_⟩, fun h => h.1⟩, (Kept.refl _ w).grown HG0.out (fun k e => by cases e)⟩
    rw [HD0.out.has _ (HFW.out x h)]
    exact inC_iff.2 ⟨x.2, h⟩
  case round =>
    obtain ⟨left, cnt, D, M, hrg, hrd, hM, hk⟩ := hrel
    have HRG := Lib.hid hrg; have HRD := Lib.hid hrd; have HM := Lib.hid hM; have HK := Lib.hid hk
    clear hrg hrd hM hk
    go_wp2_with (at_next; refine dwpList_next_pairs _ rfl _ rfl D b r n left cnt rfl HRG.out ?_ ?_)
    · intro _ hl0
      have HRT : Hid (DelRet w b W0 L wr) := Lib.hid ⟨M, ctight HRG.out.owns HRD.out, fun x => by rw [HM.out]; simp [hl0], HK.out⟩
      clear hl0
      go_wp2
      go_end0
      exact ⟨rfl, HRT.out⟩
    · intro p q c w1 cnt1 hfp hlx hat hrg1 hlt hg1 hen
      have HF := Lib.hid hfp; have HT := Lib.hid hlt
      have HIN := Lib.hid (told_at HRD.out hfp hat)
      obtain ⟨w2, hw2⟩ : ∃ w2, w2 = w1.alloc (.cells #[.int .i64 p, .int .i64 q] 37) := ⟨_, rfl⟩
      have hrl : r < wr.heap.size := HRG.out.lt
      have HK2 : Hid (Kept (fun k => k = b) w w2) := Lib.hid (by
        rw [hw2]
        exact ((HK.out.grown hg1 (fun k e hk' => by cases e; have := HRR.out; omega)).alloc _))
      have HR2 : Hid (w2.ranges Tryz.prog 37 (plainElem Tryz.prog 3) b r n D (fun z => left z && !z.sameKey (pk (p, q))) cnt1) := Lib.hid (by rw [hw2]; exact hrg1.alloc _)
      have hs2 : w1.heap.size < w2.heap.size := by rw [hw2]; simp
      have b0 : w2.cell? ⟨w1.heap.size, 0, none⟩ = some (.int .i64 p) := by rw [hw2]; simp
      have b1 : w2.cell? ⟨w1.heap.size, 1, none⟩ = some (.int .i64 q) := by rw [hw2]; simp
      have HE2 := Lib.hid (HE.out.kept HK2.out)
      have cC := dclosure_any p q c C K m L w2 HE2.out.cell HE2.out.cts HF.out HE2.out.lt
      have hw2' := hw2.symm
      obtain ⟨bx, hbx⟩ : ∃ bx, w1.heap.size = bx := ⟨_, rfl⟩
      rw [hbx] at b0 b1 hs2
      have hkey : keyOf Tryz.prog 37 (.agg #[.int .i64 p, .int .i64 q]) = some (pk (p, q)) := key_pair HF.out
      have HKEY := Lib.hid hkey
      clear hfp hlx hat hrg1 hlt hg1 hw2 hkey
      by_cases he : c = getC L (p, q)
      · have hb : (c == getC L (p, q)) = true := by simp [he]
        rw [hb] at cC
        have HEQ := Lib.hid he
        clear he hb
        go_wp2_with fail
        clear hw2' hen
        refine cC.mono ?_
        rintro e w3 ⟨rfl, h3⟩
        have hg3 : w2.grownBy w3 none := ⟨h3.os, h3.tape, h3.output, h3.size, fun k hk _ => h3.block k hk⟩
        have HR3 := Lib.hid (HR2.out.kept hg3 (by simp) (by simp))
        have HK3 : Hid (Kept (fun k => k = b) w w3) := Lib.hid (HK2.out.grown hg3 (fun k e => by cases e))
        have d0 : w3.cell? ⟨bx, 0, none⟩ = some (.int .i64 p) := (h3.cell hs2).trans b0
        have d1 : w3.cell? ⟨bx, 1, none⟩ = some (.int .i64 q) := (h3.cell hs2).trans b1
        clear h3 hg3 cC b0 b1
        go_wp2_with (at_delete; refine wpList_delete_ranges _ rfl _ _ 89 37 rfl 3 lawP Tryz.underlying89 (plainElem Tryz.prog 3) b r n D _ cnt1 rfl HR3.out (.agg #[.int .i64 p, .int .i64 q]) (pk (p, q)) rfl HKEY.out ?_; intro w4 cnt4 hrg4 hle4 hturn4; rw [strike_twice] at hrg4; have HR4 := Lib.hid hrg4; have HL4 := Lib.hid hle4; have HK4 : Hid (Kept (fun k => k = b) w w4) := Lib.hid (HK3.out.grown hturn4.grown (fun k e _ => by cases e; rfl)); clear hrg4 hle4 hturn4; go_frame)
        go_roundw
        case rel => exact ⟨_, cnt4, _, delC M (p, q), HR4.out, HRD.out.del (World.ownsMap.tidy HRG.out.owns lawP) HF.out, del_struck HRW.out HFW.out HM.out HF.out HIN.out HEQ.out, HK4.out⟩
        case measure => rw [HR4.out.left_eq, HRG.out.left_eq]; have := HT.out; have := HL4.out; omega
      · have hb : (c == getC L (p, q)) = false := by simp [he]
        rw [hb] at cC
        have HNE := Lib.hid he
        clear he hb
        go_wp2_with fail
        clear hw2' hen
        refine cC.mono ?_
        rintro e w3 ⟨rfl, h3⟩
        have hg3 : w2.grownBy w3 none := ⟨h3.os, h3.tape, h3.output, h3.size, fun k hk _ => h3.block k hk⟩
        have HR3 := Lib.hid (HR2.out.kept hg3 (by simp) (by simp))
        have HK3 : Hid (Kept (fun k => k = b) w w3) := Lib.hid (HK2.out.grown hg3 (fun k e => by cases e))
        clear h3 hg3 cC b0 b1
        go_wp2
        go_roundw
        case rel => exact ⟨_, cnt1, D, M, HR3.out, HRD.out, del_stays HRW.out HFW.out HM.out HF.out HIN.out HNE.out, HK3.out⟩
        case measure => rw [HR3.out.left_eq, HRG.out.left_eq]; exact HT.out
end Go.Proofs.YtejcemmhhpbchaaGreat
