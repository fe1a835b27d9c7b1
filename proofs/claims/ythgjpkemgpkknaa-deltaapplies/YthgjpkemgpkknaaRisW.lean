/- The pairs of a map, and of a count, rising. -/
import Derived.Test.YthgjpkemgpkknaaRisP
namespace Go.Proofs.Ythgjpkemgpkknaa
open Go.RowKit Go.Maps

def keysC (L : Cn) : List (Int × Int) := L.map (·.1)
def RisRet (w : World) (L : Cn) (e : Ending) (w' : World) : Prop := ∃ v, e = .returned v ∧ ownE pairE w' w.heap.size v (keysC L) ∧ Below w.heap.size w w'
set_option maxHeartbeats 2000000 in
theorem rising_any (m : Option Nat) (L : Cn) (w : World) (h : mapC w m L) (hl : L.length ≤ 1000000) : Calls Try.prog 21 #[.map m] w fun e w' => RisRet w L e w' := by
  have hlen := len_c h 3
  obtain ⟨i0, hi, hz0, hz1, hz2⟩ := info_parts pairE.info
  obtain ⟨n, hn⟩ : ∃ n, L.length = n := ⟨_, rfl⟩
  have HN := Lib.hid hn
  rw [hn] at hlen hl
  obtain ⟨w1, hmk, hown1, hg1⟩ := run_make_own (P := Try.prog) w w.heap.size 29 24 i0 _ 2 Try.underlying29 hi hz0 hz1 .i64 .i64 n (by rw [hz2]; show 16 * n ≤ _; omega) (by unfold maxLen; omega) (Nat.le_refl _)
  have hb1 : Below w.heap.size w w1 := (Below.refl _ w).grown hg1 (Nat.le_refl _) (by simp)
  have HB1 := Lib.hid hb1
  have HO1 : Hid (ownE pairE w1 w.heap.size (.slice (some ⟨w.heap.size, 0, none⟩) 0 n) []) := Lib.hid hown1
  have HH := Lib.hid h
  clear hown1 hg1 hi hz0 hz1 hz2 h
  cases m with
  | none =>
    obtain rfl : L = [] := HH.out
    obtain rfl : n = 0 := hn.symm
    have hrn := run_range_nilMap (P := Try.prog) w1 50 24 3 Try.underlying50
    have hnn := fun ty => run_next_nilMap (P := Try.prog) w1 ty 0 0 #[]
    have HO2 : Hid (ownE pairE (w1.alloc (.mapIter none 0 #[] 0)) w.heap.size (.slice (some ⟨w.heap.size, 0, none⟩) 0 0) []) := Lib.hid (HO1.out.alloc _)
    replace hmk : (Instr.makeSlice 29 (.int .i64 0) (.int .i64 0)).run Try.prog w = .ok (.slice (some ⟨w.heap.size, 0, none⟩) 0 0) w1 := hmk
    replace hlen : (Builtin.len_ #[50] 3 #[.map none]).run Try.prog w = .ok (.int .i64 0) w := hlen
    clear hn hb1
    go_enter Try.func21, Try.ntmps21
    go_wp2
    refine wp_loop_rounds 1 ?_
    rw [rounds_succ]
    go_wp2_with fail
    refine (prsort_any (.slice (some ⟨w.heap.size, 0, none⟩) 0 0) [] _ w.heap.size HO2.out List.Pairwise.nil (by simp)).mono ?_
    rintro e w5 ⟨rfl, X, hown5, hp5, _, hg5⟩
    obtain rfl : X = [] := hp5.eq_nil
    have HO5 := Lib.hid hown5; have HG5 := Lib.hid hg5
    clear hown5 hg5 hp5
    go_wp2
    go_ret
    exact ⟨_, rfl, HO5.out, (HB1.out.alloc HB1.out.size _).grown HG5.out (by rw [World.size_alloc]; have := HB1.out.size; omega) fun g e => by cases e; exact Nat.le_refl _⟩
  | some b =>
    have hcm : CMap w1 b L := CMap.kept HH.out (hb1.block b (CMap.lt HH.out))
    obtain ⟨D, hmap1, hrd⟩ := hcm
    have HD := Lib.hid hrd
    obtain ⟨w2, hrng, hrg2, hg2, hs2⟩ := World.ownsMap.range (w := w1) hmap1 lawP Try.underlying50
    have HR2 := Lib.hid hrg2; have HG2 := Lib.hid hg2
    have HS1 : Hid (w.heap.size ≤ w1.heap.size) := Lib.hid HB1.out.size
    obtain ⟨r, hr⟩ : ∃ r, w1.heap.size = r := ⟨_, rfl⟩
    rw [hr] at hrng HR2 HS1
    clear hr hrg2 hg2 hs2 hmap1 hb1 hn hrd
    go_enter Try.func21, Try.ntmps21
    go_wp2
    go_loopw [3] (fun v wr => RisRel w b r D L v wr) (fun _ wr => wr.rangeLeft b r)
    case atStart =>
      refine ⟨_, _, [], HR2.out, HO1.out.kept fun g hg => HG2.out.block g (HO1.out.lt g hg).2 (by simp), fun p => ⟨fun h => by simp at h, ?_⟩, List.Pairwise.nil, by rw [HD.out.size]; simp, HB1.out.grown HG2.out HB1.out.size (by simp)⟩
      rintro ⟨h1, h2, h4⟩
      rw [HD.out.has p h1, h2] at h4
      cases h4
    case round =>
      obtain ⟨left, cnt, M, hrg, hown, hM, hnd, hcn, hbel⟩ := hrel
      have HM := Lib.hid hM; have HO := Lib.hid hown; have HB := Lib.hid hbel; have HR := Lib.hid hrg; have HND := Lib.hid hnd; have HCN := Lib.hid hcn
      clear hM hown hbel hrg hnd hcn
      go_wp2_with (at_next; refine wpList_next_pairs _ rfl _ rfl D b r L.length left cnt rfl HR.out ?_ ?_)
      · intro _ hl0
        have HP : Hid (∀ p, p ∈ M ↔ FitsPr p ∧ inC L p = true) := Lib.hid (fun p => by rw [HM.out]; simp [hl0])
        clear hl0
        go_wp2_with fail
        refine (prsort_any u3 M _ w.heap.size HO.out HND.out (by have := HCN.out; have := HN.out; omega)).mono ?_
        rintro e w5 ⟨rfl, X, hown5, hp5, hr5, hg5⟩
        have hX : X = keysC L := keys_of HD.out.ris (fun x hx => (HD.out.fits x hx).1) HP.out hp5 hr5
        subst hX
        have HO5 := Lib.hid hown5; have HG5 := Lib.hid hg5
        clear hown5 hg5 hp5 hr5
        go_wp2
        go_ret
        exact ⟨_, rfl, HO5.out, HB.out.grown HG5.out HB.out.size fun g e => (HO.out.lt g e).1⟩
      · intro p q c w3 cnt3 hfp hlx hat hrg3 hlt hg3 hen
        have HF := Lib.hid hfp; have HL := Lib.hid hlx; have HX := Lib.hid hat; have HR3 := Lib.hid hrg3; have HT := Lib.hid hlt; have HG3 := Lib.hid hg3
        have HO3 : Hid (ownE pairE w3 w.heap.size u3 M) := Lib.hid (HO.out.kept fun g hg => HG3.out.block g (HO.out.lt g hg).2 (fun e => by
          have := row_ne_iter HO.out HR.out
          rw [hg] at this; exact this e.symm))
        have HO4 : Hid (ownE pairE ((w3.alloc (.cells #[.int .i64 p, .int .i64 q] 24)).alloc (.cells #[.int .i64 p, .int .i64 q] 24)) w.heap.size u3 M) := Lib.hid ((HO3.out.alloc _).alloc _)
        have HE4 : Hid (eltsAt pairE ((w3.alloc (.cells #[.int .i64 p, .int .i64 q] 24)).alloc (.cells #[.int .i64 p, .int .i64 q] 24)) (.slice (some ⟨w3.heap.size + 1, 0, none⟩) 1 1) [(p, q)]) := Lib.hid (by
          have := one_elt pairE (w3.alloc (.cells #[.int .i64 p, .int .i64 q] 24)) (p, q)
          rwa [World.size_alloc] at this)
        have HZ : Hid (w.heap.size ≤ ((w3.alloc (.cells #[.int .i64 p, .int .i64 q] 24)).alloc (.cells #[.int .i64 p, .int .i64 q] 24)).heap.size) := Lib.hid (by rw [World.size_alloc, World.size_alloc]; have := HB.out.size; have := HG3.out.size; omega)
        clear hfp hlx hat hrg3 hlt hg3
        go_wp2_with (at_builtin; refine wpList_append_elts pairE rfl (.tmp 14) (.tmp 16) rfl w.heap.size u3 _ M [(p, q)] rfl rfl HO4.out HE4.out (fun n c e => by cases e) (by have := HCN.out; have := HN.out; simp; omega) HZ.out ?_; intro r5 w5 hown5 hg5 _; have HO5 := Lib.hid hown5; have HG5 := Lib.hid hg5; clear hown5 hg5)
        have HS := Lib.hid (ris_step _ _ HB.out HM.out HND.out HF.out HL.out HD.out HX.out HS1.out HG3.out HR3.out HO3.out HCN.out HT.out HO5.out HG5.out)
        go_roundw
        case rel => exact HS.out.1
        case measure => rw [HS.out.2.left_eq, HR.out.left_eq]; exact HT.out
theorem all_any (K : Nat) (m : Option Nat) (L : Cn) (w : World) (h : Cts w K m L) (hl : L.length ≤ 1000000) : Calls Try.prog 14 #[.pointer (some ⟨K, 0, none⟩)] w fun e w' => RisRet w L e w' := by
  obtain ⟨c0, _⟩ := h.cell
  have cR := rising_any m L w h.2 hl
  clear h
  go_enter Try.func14, Try.ntmps14
  go_wp2_with fail
  refine cR.mono ?_
  rintro e w1 ⟨v, rfl, ho, hb⟩
  have HO := Lib.hid ho; have HB := Lib.hid hb
  clear ho hb
  go_wp2
  go_ret
  exact ⟨v, rfl, HO.out, HB.out⟩
theorem all_nil (w : World) : Calls Try.prog 14 #[.pointer none] w fun e w' => e = .returned (.slice none 0 0) ∧ w' = w := by
  go_enter Try.func14, Try.ntmps14
  go_wp2
  go_ret
  exact ⟨rfl, rfl⟩
end Go.Proofs.Ythgjpkemgpkknaa
