/- Texts in one: RisW, DelF, CAdd. -/
import Derived.Test.YtnmacalbbmeedaaGreatQ16
import Derived.Test.YtnmacalbbmeedaaGreatQ14
import Derived.Deep.RegionHeld3
/- The pairs of a map, and of a count, rising. -/
namespace Go.Proofs.YtnmacalbbmeedaaGreat
open Go.RowKit Go.Maps

def keysC (L : Cn) : List (Int × Int) := L.map (·.1)
def RisRet (w : World) (L : Cn) (e : Ending) (w' : World) : Prop := ∃ v, e = .returned v ∧ ownE pairE w' w.heap.size v (keysC L) ∧ Below w.heap.size w w'
set_option maxRecDepth 100000 in
set_option maxHeartbeats 2000000 in
theorem drising_any (m : Option Nat) (L : Cn) (w : World) (h : mapC w m L) (hl : L.length ≤ 1000000) : Calls Tryz.prog 78 #[.map m] w fun e w' => RisRet w L e w' := by
  have hlen := len_c h 3
  obtain ⟨i0, hi, hz0, hz1, hz2⟩ := info_parts pairE.info
  obtain ⟨n, hn⟩ : ∃ n, L.length = n := ⟨_, rfl⟩
  have HN := Lib.hid hn
  rw [hn] at hlen hl
  obtain ⟨w1, hmk, hown1, hg1⟩ := run_make_own (P := Tryz.prog) w w.heap.size 74 77 i0 _ 2 Tryz.underlying74 hi hz0 hz1 .i64 .i64 n (by rw [hz2]; show 16 * n ≤ _; omega) (by unfold maxLen; omega) (Nat.le_refl _)
  have hb1 : Below w.heap.size w w1 := (Below.refl _ w).grown hg1 (Nat.le_refl _) (by simp)
  have HB1 := Lib.hid hb1
  have HO1 : Hid (ownE pairE w1 w.heap.size (.slice (some ⟨w.heap.size, 0, none⟩) 0 n) []) := Lib.hid hown1
  have HH := Lib.hid h
  clear hown1 hg1 hi hz0 hz1 hz2 h
  cases m with
  | none =>
    obtain rfl : L = [] := HH.out
    obtain rfl : n = 0 := hn.symm
    have hrn := run_range_nilMap (P := Tryz.prog) w1 114 77 3 Tryz.underlying114
    have hnn := fun ty => run_next_nilMap (P := Tryz.prog) w1 ty 0 0 #[]
    have HO2 : Hid (ownE pairE (w1.alloc (.mapIter none 0 #[] 0)) w.heap.size (.slice (some ⟨w.heap.size, 0, none⟩) 0 0) []) := Lib.hid (HO1.out.alloc _)
    replace hmk : (Instr.makeSlice 74 (.int .i64 0) (.int .i64 0)).run Tryz.prog w = .ok (.slice (some ⟨w.heap.size, 0, none⟩) 0 0) w1 := hmk
    replace hlen : (Builtin.len_ #[114] 3 #[.map none]).run Tryz.prog w = .ok (.int .i64 0) w := hlen
    clear hn hb1
    go_enter Tryz.func78, Tryz.ntmps78
    go_wp2
    refine wp_loop_rounds 1 ?_
    rw [rounds_succ]
    go_wp2_with fail
    refine (prsort_any (.slice (some ⟨w.heap.size, 0, none⟩) 0 0) [] _ w.heap.size HO2.out List.Pairwise.nil (by simp)).mono ?_
    rintro e w5 ⟨rfl, X, hown5, hp5, _, hg5⟩
    obtain rfl : X = [] := hp5.eq_nil
    have HO5 := Lib.hid hown5; have HG5 := Lib.hid hg5
    clear hown5 hg5 hp5
    go_wp2
    go_ret
    exact ⟨_, rfl, HO5.out, (HB1.out.alloc HB1.out.size _).grown HG5.out (by rw [World.size_alloc]; have := HB1.out.size; omega) fun g e => by cases e; exact Nat.le_refl _⟩
  | some b =>
    have hcm : CMap w1 b L := CMap.kept HH.out (hb1.block b (CMap.lt HH.out))
    obtain ⟨D, hmap1, hrd⟩ := hcm
    have HD := Lib.hid hrd
    obtain ⟨w2, hrng, hrg2, hg2, hs2⟩ := World.ownsMap.range (w := w1) hmap1 lawP Tryz.underlying114
    have HR2 := Lib.hid hrg2; have HG2 := Lib.hid hg2
    have HS1 : Hid (w.heap.size ≤ w1.heap.size) := Lib.hid HB1.out.size
    obtain ⟨r, hr⟩ : ∃ r, w1.heap.size = r := ⟨_, rfl⟩
    rw [hr] at hrng HR2 HS1
    clear hr hrg2 hg2 hs2 hmap1 hb1 hn hrd
    go_enter Tryz.func78, Tryz.ntmps78
    go_wp2
    go_loopw [3] (fun v wr => DRisRel w b r D L v wr) (fun _ wr => wr.rangeLeft b r)
    case atStart =>
      refine ⟨_, _, [], HR2.out, HO1.out.kept fun g hg => HG2.out.block g (HO1.out.lt g hg).2 (by simp), fun p => ⟨fun h => by simp at h, ?_⟩, List.Pairwise.nil, by rw [HD.out.size]; simp, HB1.out.grown HG2.out HB1.out.size (by simp)⟩
      rintro ⟨h1, h2, h4⟩
      rw [HD.out.has p h1, h2] at h4
      cases h4
    case round =>
      obtain ⟨left, cnt, M, hrg, hown, hM, hnd, hcn, hbel⟩ := hrel
      have HM := Lib.hid hM; have HO := Lib.hid hown; have HB := Lib.hid hbel; have HR := Lib.hid hrg; have HND := Lib.hid hnd; have HCN := Lib.hid hcn
      clear hM hown hbel hrg hnd hcn
      go_wp2_with (at_next; refine dwpList_next_pairs _ rfl _ rfl D b r L.length left cnt rfl HR.out ?_ ?_)
      · intro _ hl0
        have HP : Hid (∀ p, p ∈ M ↔ FitsPr p ∧ inC L p = true) := Lib.hid (fun p => by rw [HM.out]; simp [hl0])
        clear hl0
        go_wp2_with fail
        refine (prsort_any u3 M _ w.heap.size HO.out HND.out (by have := HCN.out; have := HN.out; omega)).mono ?_
        rintro e w5 ⟨rfl, X, hown5, hp5, hr5, hg5⟩
        have hX : X = keysC L := keys_of HD.out.ris (fun x hx => (HD.out.fits x hx).1) HP.out hp5 hr5
        subst hX
        have HO5 := Lib.hid hown5; have HG5 := Lib.hid hg5
        clear hown5 hg5 hp5 hr5
        go_wp2
        go_ret
        exact ⟨_, rfl, HO5.out, HB.out.grown HG5.out HB.out.size fun g e => (HO.out.lt g e).1⟩
      · intro p q c w3 cnt3 hfp hlx hat hrg3 hlt hg3 hen
        have HF := Lib.hid hfp; have HL := Lib.hid hlx; have HX := Lib.hid hat; have HR3 := Lib.hid hrg3; have HT := Lib.hid hlt; have HG3 := Lib.hid hg3
        have HO3 : Hid (ownE pairE w3 w.heap.size u3 M) := Lib.hid (HO.out.kept fun g hg => HG3.out.block g (HO.out.lt g hg).2 (fun e => by
          have := row_ne_iter HO.out HR.out
          rw [hg] at this; exact this e.symm))
        have HO4 : Hid (ownE pairE ((w3.alloc (.cells #[.int .i64 p, .int .i64 q] 77)).alloc (.cells #[.int .i64 p, .int .i64 q] 77)) w.heap.size u3 M) := Lib.hid ((HO3.out.alloc _).alloc _)
        have HE4 : Hid (eltsAt pairE ((w3.alloc (.cells #[.int .i64 p, .int .i64 q] 77)).alloc (.cells #[.int .i64 p, .int .i64 q] 77)) (.slice (some ⟨w3.heap.size + 1, 0, none⟩) 1 1) [(p, q)]) := Lib.hid (by
          have := one_elt pairE (w3.alloc (.cells #[.int .i64 p, .int .i64 q] 77)) (p, q)
          rwa [World.size_alloc] at this)
        have HZ : Hid (w.heap.size ≤ ((w3.alloc (.cells #[.int .i64 p, .int .i64 q] 77)).alloc (.cells #[.int .i64 p, .int .i64 q] 77)).heap.size) := Lib.hid (by rw [World.size_alloc, World.size_alloc]; have := HB.out.size; have := HG3.out.size; omega)
        clear hfp hlx hat hrg3 hlt hg3
        go_wp2_with (at_builtin; refine wpList_append_elts pairE rfl (.tmp 14) (.tmp 16) rfl w.heap.size u3 _ M [(p, q)] rfl rfl HO4.out HE4.out (fun n c e => by cases e) (by have := HCN.out; have := HN.out; simp; omega) HZ.out ?_; intro r5 w5 hown5 hg5 _; have HO5 := Lib.hid hown5; have HG5 := Lib.hid hg5; clear hown5 hg5)
        have HS := Lib.hid (dris_step _ _ HB.out HM.out HND.out HF.out HL.out HD.out HX.out HS1.out HG3.out HR3.out HO3.out HCN.out HT.out HO5.out HG5.out)
        go_roundw
        case rel => exact HS.out.1
        case measure => rw [HS.out.2.left_eq, HR.out.left_eq]; exact HT.out
set_option maxRecDepth 100000 in
theorem dall_any (K : Nat) (m : Option Nat) (L : Cn) (w : World) (h : Cts w K m L) (hl : L.length ≤ 1000000) : Calls Tryz.prog 53 #[.pointer (some ⟨K, 0, none⟩)] w fun e w' => RisRet w L e w' := by
  obtain ⟨c0, _⟩ := h.cell
  have cR := drising_any m L w h.2 hl
  clear h
  go_enter Tryz.func53, Tryz.ntmps53
  go_wp2_with fail
  refine cR.mono ?_
  rintro e w1 ⟨v, rfl, ho, hb⟩
  have HO := Lib.hid ho; have HB := Lib.hid hb
  clear ho hb
  go_wp2
  go_ret
  exact ⟨v, rfl, HO.out, HB.out⟩
end Go.Proofs.YtnmacalbbmeedaaGreat
/- maps.DeleteFunc at the counts that were: what is as it was is struck. -/
namespace Go.Proofs.YtnmacalbbmeedaaGreat
open Go.RowKit Go.Maps

set_option maxRecDepth 100000 in
theorem dclosure_any (p q c : Int) (C K : Nat) (m : Option Nat) (L : Cn) (w : World) (hc : w.cell? ⟨C, 0, none⟩ = some (.pointer (some ⟨K, 0, none⟩))) (h : Cts w K m L) (hp : FitsPr (p, q)) (hC : C < w.heap.size) :
    Calls Tryz.prog 107 #[.agg #[.int .i64 p, .int .i64 q], .int .i64 c, .pointer (some ⟨C, 0, none⟩)] w fun e w' => e = .returned (.bool (c == getC L (p, q))) ∧ Below w.heap.size w w' := by
  obtain ⟨w1, hw1⟩ : ∃ w1, w1 = w.alloc (.cells #[.int .i64 p, .int .i64 q] 77) := ⟨_, rfl⟩
  have HB1 : Hid (Below w.heap.size w w1) := Lib.hid (by rw [hw1]; exact (Below.refl _ w).alloc (Nat.le_refl _) _)
  have b0 : w1.cell? ⟨w.heap.size, 0, none⟩ = some (.int .i64 p) := by rw [hw1]; simp
  have b1 : w1.cell? ⟨w.heap.size, 1, none⟩ = some (.int .i64 q) := by rw [hw1]; simp
  have c1 : w1.cell? ⟨C, 0, none⟩ = some (.pointer (some ⟨K, 0, none⟩)) := (HB1.out.cell hC).trans hc
  have cG := dget_any K m L p q w1 (h.below HB1.out) hp
  have hw' := hw1.symm
  generalize getC L (p, q) = g at *
  clear h hc hw1 hp
  go_enter Tryz.func107, Tryz.ntmps107
  go_wp2_with fail
  clear hw'
  refine cG.mono ?_
  rintro e w2 ⟨rfl, hw2⟩
  have HB2 : Hid (Below w.heap.size w w2) := Lib.hid (by rw [hw2]; exact (HB1.out.alloc HB1.out.size _).drew)
  clear hw2
  go_wp2
  go_ret
  exact ⟨rfl, HB2.out⟩
def DelRel (w : World) (b r n : Nat) (W0 L : Cn) (wr : World) : Prop :=
  ∃ (left : Lit → Bool) (cnt : Nat) (D : DataW Unit) (M : Cn), wr.ranges Tryz.prog 77 (plainElem Tryz.prog 3) b r n D left cnt ∧ ReadsC D M ∧ (∀ x, x ∈ M ↔ x ∈ W0 ∧ (left (pk x.1) = true ∨ x.2 ≠ getC L x.1)) ∧ Kept (fun k => k = b) w wr
set_option maxRecDepth 100000 in
/-- What is told of a pair that is still to come. -/
theorem told_at {D : DataW Unit} {M : Cn} (hD : ReadsC D M) {p : Int × Int} {c : Int} (hp : FitsPr p) (hat : ∀ zd, D.atKey (pk p) zd = .lit (.int .i64 c)) : (p, c) ∈ M := by
  have h1 := hD.tell p hp
  rw [hat] at h1
  have hc : c = getC M p := by cases h1; rfl
  have h2 := hD.has p hp
  rw [has_true_of_atKey hat] at h2
  rw [hc]
  exact get_in h2.symm
set_option maxRecDepth 100000 in
theorem left_same {left : Lit → Bool} {p q : Int × Int} (hp : FitsPr p) (hq : FitsPr q) : (left (pk q) && !(pk q).sameKey (pk p)) = true ↔ left (pk q) = true ∧ q ≠ p := by
  by_cases e : q = p
  · subst e
    rw [WideAt.sameKey_self (pk_key _)]; simp
  · rw [sameKey_ne fun k => e (pk_inj hq hp k)]; simp [e]
set_option maxRecDepth 100000 in
theorem del_stays {W0 L M : Cn} {left : Lit → Bool} {p : Int × Int} {c : Int} (hW : RisC W0) (hf : ∀ x ∈ W0, FitsPr x.1) (hM : ∀ x, x ∈ M ↔ x ∈ W0 ∧ (left (pk x.1) = true ∨ x.2 ≠ getC L x.1)) (hp : FitsPr p) (hpc : (p, c) ∈ M) (hne : c ≠ getC L p) :
    ∀ x, x ∈ M ↔ x ∈ W0 ∧ ((left (pk x.1) && !(pk x.1).sameKey (pk p)) = true ∨ x.2 ≠ getC L x.1) := by
  have hpW := ((hM _).1 hpc).1
  intro x
  rw [hM]
  constructor
  · rintro ⟨h1, h2⟩
    refine ⟨h1, ?_⟩
    by_cases e : x.1 = p
    · have hx : x.2 = c := by
        have a1 := get_mem (c := x.2) hW (show (x.1, x.2) ∈ W0 from h1)
        have a2 := get_mem hW hpW
        rw [e, a2] at a1
        exact a1.symm
      exact .inr (by rw [hx, e]; exact hne)
    · rcases h2 with h2 | h2
      · exact .inl ((left_same hp (hf x h1)).2 ⟨h2, e⟩)
      · exact .inr h2
  · rintro ⟨h1, h2⟩
    refine ⟨h1, ?_⟩
    rcases h2 with h2 | h2
    · exact .inl ((left_same hp (hf x h1)).1 h2).1
    · exact .inr h2
set_option maxRecDepth 100000 in
theorem del_struck {W0 L M : Cn} {left : Lit → Bool} {p : Int × Int} {c : Int} (hW : RisC W0) (hf : ∀ x ∈ W0, FitsPr x.1) (hM : ∀ x, x ∈ M ↔ x ∈ W0 ∧ (left (pk x.1) = true ∨ x.2 ≠ getC L x.1)) (hp : FitsPr p) (hpc : (p, c) ∈ M) (he : c = getC L p) :
    ∀ x, x ∈ delC M p ↔ x ∈ W0 ∧ ((left (pk x.1) && !(pk x.1).sameKey (pk p)) = true ∨ x.2 ≠ getC L x.1) := by
  have hpW := ((hM _).1 hpc).1
  intro x
  rw [del_mem, hM]
  constructor
  · rintro ⟨⟨h1, h2⟩, e⟩
    refine ⟨h1, ?_⟩
    rcases h2 with h2 | h2
    · exact .inl ((left_same hp (hf x h1)).2 ⟨h2, e⟩)
    · exact .inr h2
  · rintro ⟨h1, h2⟩
    rcases h2 with h2 | h2
    · obtain ⟨h3, e⟩ := (left_same hp (hf x h1)).1 h2
      exact ⟨⟨h1, .inl h3⟩, e⟩
    · refine ⟨⟨h1, .inr h2⟩, fun e => h2 ?_⟩
      have a1 := get_mem (c := x.2) hW (show (x.1, x.2) ∈ W0 from h1)
      have a2 := get_mem hW hpW
      rw [e, a2] at a1
      rw [e, ← he, a1]
/-- What stands where nothing but the map is turned. -/
structure DEnv (w : World) (C K b : Nat) (m : Option Nat) (L : Cn) : Prop where
  cell : w.cell? ⟨C, 0, none⟩ = some (.pointer (some ⟨K, 0, none⟩))
  cts : Cts w K m L
  lt : C < w.heap.size
  ne : C ≠ b
  apart : ¬ dmineC K m b
set_option maxRecDepth 100000 in
theorem DEnv.kept {w w' : World} {C K b : Nat} {m : Option Nat} {L : Cn} (h : DEnv w C K b m L) (hk : Kept (fun k => k = b) w w') : DEnv w' C K b m L :=
  ⟨(World.cell?_of_block (hk.block C h.lt h.ne)).trans h.cell, h.cts.kept fun k hlt hm => hk.block k hlt fun e => by subst e; exact h.apart hm, Nat.lt_of_lt_of_le h.lt hk.size, h.ne, h.apart⟩
def DelRet (w : World) (b : Nat) (W0 L : Cn) (w' : World) : Prop := ∃ M, CMap w' b M ∧ (∀ x, x ∈ M ↔ x ∈ W0 ∧ x.2 ≠ getC L x.1) ∧ Kept (fun k => k = b) w w'
set_option maxRecDepth 100000 in
set_option maxHeartbeats 4000000 in
theorem delf_any (b C K : Nat) (m : Option Nat) (W0 L : Cn) (w : World) (hW : CMap w b W0) (hE : DEnv w C K b m L) :
    Calls Tryz.prog 106 #[.map (some b), .func (.func 107) #[] #[.pointer (some ⟨C, 0, none⟩)]] w fun e w' => e = .returned (.tuple #[]) ∧ DelRet w b W0 L w' := by
  have eg : ∀ args w, (callFunc 107 args).run Tryz.prog w = .ok (.enter 107 args) w := enters_of Tryz.func107 (by kernel_rfl) rfl
  have HRW := Lib.hid (CMap.ris hW); have HFW := Lib.hid (fun x hx => (CMap.fits hW x hx).1)
  have HE := Lib.hid hE
  have hblt := CMap.lt hW
  obtain ⟨D0, hown, hrd⟩ := hW
  have HD0 := Lib.hid hrd
  obtain ⟨w0, hrng, hrg0, hg0, hs0⟩ := World.ownsMap.range (w := w) hown lawP Tryz.underlying114
  have HR0 := Lib.hid hrg0; have HG0 := Lib.hid hg0
  obtain ⟨r, hr⟩ : ∃ r, w.heap.size = r := ⟨_, rfl⟩
  have HRR := Lib.hid hr
  rw [hr] at hrng HR0
  obtain ⟨n, hn⟩ : ∃ n, W0.length = n := ⟨_, rfl⟩
  rw [hn] at HR0
  clear hr hrg0 hg0 hs0 hown hrd hE hn
  go_enter Tryz.func106, Tryz.ntmps106
  go_wp2
  go_loopw [] (fun wr => DelRel w b r n W0 L wr) (fun wr => wr.rangeLeft b r)
  case atStart =>
    refine ⟨_, _, D0, W0, HR0.out, HD0.out, fun x => ⟨fun h => ⟨h, .inl ?_⟩, fun h => h.1⟩, (Kept.refl _ w).grown HG0.out (fun k e => by cases e)⟩
    rw [HD0.out.has _ (HFW.out x h)]
    exact inC_iff.2 ⟨x.2, h⟩
  case round =>
    obtain ⟨left, cnt, D, M, hrg, hrd, hM, hk⟩ := hrel
    have HRG := Lib.hid hrg; have HRD := Lib.hid hrd; have HM := Lib.hid hM; have HK := Lib.hid hk
    clear hrg hrd hM hk
    go_wp2_with (at_next; refine dwpList_next_pairs _ rfl _ rfl D b r n left cnt rfl HRG.out ?_ ?_)
    · intro _ hl0
      have HRT : Hid (DelRet w b W0 L wr) := Lib.hid ⟨M, ctight HRG.out.owns HRD.out, fun x => by rw [HM.out]; simp [hl0], HK.out⟩
      clear hl0
      go_wp2
      go_end0
      exact ⟨rfl, HRT.out⟩
    · intro p q c w1 cnt1 hfp hlx hat hrg1 hlt hg1 hen
      have HF := Lib.hid hfp; have HT := Lib.hid hlt
      have HIN := Lib.hid (told_at HRD.out hfp hat)
      obtain ⟨w2, hw2⟩ : ∃ w2, w2 = w1.alloc (.cells #[.int .i64 p, .int .i64 q] 77) := ⟨_, rfl⟩
      have hrl : r < wr.heap.size := HRG.out.lt
      have HK2 : Hid (Kept (fun k => k = b) w w2) := Lib.hid (by
        rw [hw2]
        exact ((HK.out.grown hg1 (fun k e hk' => by cases e; have := HRR.out; omega)).alloc _))
      have HR2 : Hid (w2.ranges Tryz.prog 77 (plainElem Tryz.prog 3) b r n D (fun z => left z && !z.sameKey (pk (p, q))) cnt1) := Lib.hid (by rw [hw2]; exact hrg1.alloc _)
      have hs2 : w1.heap.size < w2.heap.size := by rw [hw2]; simp
      have b0 : w2.cell? ⟨w1.heap.size, 0, none⟩ = some (.int .i64 p) := by rw [hw2]; simp
      have b1 : w2.cell? ⟨w1.heap.size, 1, none⟩ = some (.int .i64 q) := by rw [hw2]; simp
      have HE2 := Lib.hid (HE.out.kept HK2.out)
      have cC := dclosure_any p q c C K m L w2 HE2.out.cell HE2.out.cts HF.out HE2.out.lt
      have hw2' := hw2.symm
      obtain ⟨bx, hbx⟩ : ∃ bx, w1.heap.size = bx := ⟨_, rfl⟩
      rw [hbx] at b0 b1 hs2
      have hkey : keyOf Tryz.prog 77 (.agg #[.int .i64 p, .int .i64 q]) = some (pk (p, q)) := key_pair HF.out
      have HKEY := Lib.hid hkey
      clear hfp hlx hat hrg1 hlt hg1 hw2 hkey
      by_cases he : c = getC L (p, q)
      · have hb : (c == getC L (p, q)) = true := by simp [he]
        rw [hb] at cC
        have HEQ := Lib.hid he
        clear he hb
        go_wp2_with fail
        clear hw2' hen
        refine cC.mono ?_
        rintro e w3 ⟨rfl, h3⟩
        have hg3 : w2.grownBy w3 none := ⟨h3.os, h3.tape, h3.output, h3.size, fun k hk _ => h3.block k hk⟩
        have HR3 := Lib.hid (HR2.out.kept hg3 (by simp) (by simp))
        have HK3 : Hid (Kept (fun k => k = b) w w3) := Lib.hid (HK2.out.grown hg3 (fun k e => by cases e))
        have d0 : w3.cell? ⟨bx, 0, none⟩ = some (.int .i64 p) := (h3.cell hs2).trans b0
        have d1 : w3.cell? ⟨bx, 1, none⟩ = some (.int .i64 q) := (h3.cell hs2).trans b1
        clear h3 hg3 cC b0 b1
        go_wp2_with (at_delete; refine wpList_delete_ranges _ rfl _ _ 114 77 rfl 3 lawP Tryz.underlying114 (plainElem Tryz.prog 3) b r n D _ cnt1 rfl HR3.out (.agg #[.int .i64 p, .int .i64 q]) (pk (p, q)) rfl HKEY.out ?_; intro w4 cnt4 hrg4 hle4 hturn4; rw [strike_twice] at hrg4; have HR4 := Lib.hid hrg4; have HL4 := Lib.hid hle4; have HK4 : Hid (Kept (fun k => k = b) w w4) := Lib.hid (HK3.out.grown hturn4.grown (fun k e _ => by cases e; rfl)); clear hrg4 hle4 hturn4; go_frame)
        go_roundw
        case rel => exact ⟨_, cnt4, _, delC M (p, q), HR4.out, HRD.out.del (World.ownsMap.tidy HRG.out.owns lawP) HF.out, del_struck HRW.out HFW.out HM.out HF.out HIN.out HEQ.out, HK4.out⟩
        case measure => rw [HR4.out.left_eq, HRG.out.left_eq]; have := HT.out; have := HL4.out; omega
      · have hb : (c == getC L (p, q)) = false := by simp [he]
        rw [hb] at cC
        have HNE := Lib.hid he
        clear he hb
        go_wp2_with fail
        clear hw2' hen
        refine cC.mono ?_
        rintro e w3 ⟨rfl, h3⟩
        have hg3 : w2.grownBy w3 none := ⟨h3.os, h3.tape, h3.output, h3.size, fun k hk _ => h3.block k hk⟩
        have HR3 := Lib.hid (HR2.out.kept hg3 (by simp) (by simp))
        have HK3 : Hid (Kept (fun k => k = b) w w3) := Lib.hid (HK2.out.grown hg3 (fun k e => by cases e))
        clear h3 hg3 cC b0 b1
        go_wp2
        go_roundw
        case rel => exact ⟨_, cnt1, D, M, HR3.out, HRD.out, del_stays HRW.out HFW.out HM.out HF.out HIN.out HNE.out, HK3.out⟩
        case measure => rw [HR3.out.left_eq, HRG.out.left_eq]; exact HT.out
end Go.Proofs.YtnmacalbbmeedaaGreat
/- Add of a count. -/
namespace Go.Proofs.YtnmacalbbmeedaaGreat
open Go.RowKit Go.Maps

/-- Add, as plain lists: what is there behind it, and the error's number. -/
def addC (L : Cn) (p : Int × Int) (b t : Int) : Cn × Int :=
  if t < 0 then (L, 1) else bif (movOf (getC L p) b t).2 then (setC L p (movOf (getC L p) b t).1, 0) else (L, 5)
structure GoodC (L : Cn) : Prop where
  ris : RisC L
  fits : ∀ x ∈ L, FitsPr x.1 ∧ 0 < x.2 ∧ x.2 ≤ 9223372036854775807
set_option maxRecDepth 100000 in
theorem GoodC.nil : GoodC [] := ⟨List.Pairwise.nil, fun x hx => by simp at hx⟩
set_option maxRecDepth 100000 in
theorem GoodC.get {L : Cn} (h : GoodC L) (p : Int × Int) : 0 ≤ getC L p ∧ getC L p ≤ 9223372036854775807 := by
  cases e : inC L p with
  | true =>
    have := (h.fits _ (get_in e)).2
    simp only at this
    omega
  | false => rw [get_out e]; omega
set_option maxRecDepth 100000 in
theorem GoodC.set {L : Cn} (h : GoodC L) {p : Int × Int} (hp : FitsPr p) {n : Int} (hn : 0 ≤ n ∧ n ≤ 9223372036854775807) : GoodC (setC L p n) := by
  refine ⟨ris_set h.ris p n, fun x hx => ?_⟩
  rcases set_mem.1 hx with ⟨h0, rfl⟩ | ⟨hx, _⟩
  · exact ⟨hp, by simp only; omega, hn.2⟩
  · exact h.fits x hx
set_option maxRecDepth 100000 in
theorem GoodC.add {L : Cn} (h : GoodC L) {p : Int × Int} (hp : FitsPr p) (b t : Int) : GoodC (addC L p b t).1 := by
  have hm := mov_in (c := getC L p) (b := b) (t := t) (h.get p)
  unfold addC
  split
  · exact h
  · cases (movOf (getC L p) b t).2
    · exact h
    · exact h.set hp hm
set_option maxRecDepth 100000 in
theorem addC_len {L : Cn} (h : RisC L) (p : Int × Int) (b t : Int) : (addC L p b t).1.length ≤ L.length + 1 := by
  unfold addC
  split
  · simp
  · cases (movOf (getC L p) b t).2
    · simp
    · exact set_len h p _
set_option maxRecDepth 100000 in
theorem addC_err (L : Cn) (p : Int × Int) (b t : Int) : (addC L p b t).2 = 0 ∨ (addC L p b t).1 = L := by
  unfold addC
  split
  · exact .inr rfl
  · cases (movOf (getC L p) b t).2
    · exact .inr rfl
    · exact .inl rfl
set_option maxRecDepth 100000 in
set_option maxHeartbeats 2000000 in
theorem dcadd_any (K : Nat) (m : Option Nat) (L : Cn) (p q b t : Int) (w : World) (h : Cts w K m L) (hg : GoodC L) (hp : FitsPr (p, q)) (hb : FitsZ b) (ht : FitsZ t) (hl : L.length ≤ 1048576) :
    Calls Tryz.prog 105 #[.pointer (some ⟨K, 0, none⟩), .agg #[.int .i64 p, .int .i64 q], .int .i64 b, .int .i64 t] w fun e w' => e = .returned (.int .i64 (addC L (p, q) b t).2) ∧ CRet K m (addC L (p, q) b t).1 w w' := by
  unfold addC
  by_cases h0 : t < 0
  · rw [if_pos h0]
    have HR : Hid (CRet K m L w (w.alloc (.cells #[.int .i64 p, .int .i64 q] 77))) := Lib.hid (CRet.of_below h ((Below.refl _ w).alloc (Nat.le_refl _) _))
    clear h hg
    go_enter Tryz.func105, Tryz.ntmps105
    go_wp2
    go_ret
    exact ⟨rfl, HR.out⟩
  · rw [if_neg h0]
    obtain ⟨w1, hw1⟩ : ∃ w1, w1 = (w.alloc (.cells #[.int .i64 p, .int .i64 q] 77)).drew := ⟨_, rfl⟩
    have h1 : Cts w1 K m L := by rw [hw1]; exact (h.alloc _).drew
    have HB : Hid (Below w.heap.size w w1) := Lib.hid (by rw [hw1]; exact ((Below.refl _ w).alloc (Nat.le_refl _) _).drew)
    have c0 := h1.cell.1
    have hlk := look_c h1.2 hp
    have b0 : w1.cell? ⟨w.heap.size, 0, none⟩ = some (.int .i64 p) := by rw [hw1]; simp
    have b1 : w1.cell? ⟨w.heap.size, 1, none⟩ = some (.int .i64 q) := by rw [hw1]; simp
    have hgc := hg.get (p, q)
    have cV := moved_any (getC L (p, q)) b t w1 hgc hb ht
    have hmi := mov_in (c := getC L (p, q)) (b := b) (t := t) hgc
    unfold pv at hlk
    simp only at hlk
    have hw' := hw1.symm
    have hcl : ∀ n, FitsZ n → Calls Tryz.prog 123 #[.pointer (some ⟨K, 0, none⟩), .agg #[.int .i64 p, .int .i64 q], .int .i64 n] w1 fun e w' => e = .returned (.tuple #[]) ∧ CRet K m (setC L (p, q) n) w1 w' := fun n hn => dset_any K m L p q n w1 h1 hp hn hl
    have HCL := Lib.hid hcl
    clear hcl
    have HR : Hid (CRet K m L w w1) := Lib.hid (CRet.of_below h HB.out)
    generalize movOf (getC L (p, q)) b t = s at *
    generalize getC L (p, q) = c at *
    obtain ⟨n, ok⟩ := s
    simp only at hmi cV ⊢
    have hnz : FitsZ n := ⟨by omega, hmi.2⟩
    clear h h1 hp hw1 hg hb ht
    cases ok with
    | false =>
      simp only [cond_false]
      go_enter Tryz.func105, Tryz.ntmps105
      go_wp2_with fail
      go_region_with (go_at_call 122; refine cV.mono ?_; rintro e w2 ⟨rfl, rfl⟩)
      all_goals (go_wp2_with fail)
      all_goals go_ret
      all_goals exact ⟨rfl, HR.out⟩
    | true =>
      simp only [cond_true]
      have HS := Lib.hid (HCL.out n hnz)
      go_enter Tryz.func105, Tryz.ntmps105
      go_wp2_with fail
      go_region_with (go_at_call 122; refine cV.mono ?_; rintro e w2 ⟨rfl, rfl⟩)
      all_goals (go_wp2_with fail)
      all_goals refine HS.out.mono ?_
      all_goals rintro e w3 ⟨rfl, hr3⟩
      all_goals have HR3 := Lib.hid hr3
      all_goals clear hr3
      all_goals (go_wp2_with fail)
      all_goals go_ret
      all_goals exact ⟨rfl, CRet.from HB.out HR3.out⟩
end Go.Proofs.YtnmacalbbmeedaaGreat
