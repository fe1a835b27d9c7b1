/- The walk of PairTells. -/
import Derived.Test.YthjblamfkfclhaaTells
namespace Go.Proofs.Ythjblamfkfclhaa
open Go.RowKit Go.Maps Go.Shelf
open Go.Sort (grow SWO)

/-- The cells of item j. -/
abbrev At3 (wr : World) (ad : Addr) (p q n : Int) : Prop := wr.cell? ad = some (.int .i64 p) ∧ wr.cell? ⟨ad.block, ad.off + 1, none⟩ = some (.int .i64 q) ∧ wr.cell? ⟨ad.block, ad.off + 2, none⟩ = some (.int .i64 n)
theorem At3.below {w wr : World} {ad : Addr} {p q n : Int} (h : At3 w ad p q n) (hlt : ad.block < w.heap.size) (hb : Below w.heap.size w wr) : At3 wr ad p q n := ⟨(hb.cell hlt).trans h.1, (hb.cell (show (Addr.mk ad.block (ad.off + 1) none).block < w.heap.size from hlt)).trans h.2.1, (hb.cell (show (Addr.mk ad.block (ad.off + 2) none).block < w.heap.size from hlt)).trans h.2.2⟩
set_option maxRecDepth 100000 in
set_option maxHeartbeats 16000000 in
theorem pairTells_walk (v x : Value) (i k : Int) (w : World) (l : List (Int × Int)) (hv : eltsAt pairE w v l) (hl : l.length ≤ maxLen) (hf : FitsP l) (L : List Item) (hx : eltsAt itemE w x L) (hL : L.length ≤ maxLen) (hfi : ∀ q ∈ L, FitsI q) (hnil : nilNone x) (wi : (Lit.int .u8 i).wf = true) (wk : (Lit.int .u8 k).wf = true) :
    Calls Try.prog 3 #[v, x, .int .u8 i, .int .u8 k] w fun e w' => e = .returned (.bool true) ∧ Below w.heap.size w w' := by
  have mixed : Try.prog.follows .mixedOrders = true := by kernel_rfl
  have HV := Lib.hid hv
  have HX := Lib.hid hx
  have HF := Lib.hid hf
  have HFI := Lib.hid hfi
  have HN := Lib.hid hnil
  obtain ⟨i0, i1⟩ := bounds_u8 wi
  obtain ⟨k0, k1⟩ := bounds_u8 wk
  obtain ⟨ar, cap, rfl, _⟩ := hv
  obtain ⟨xr, cax, rfl, hxc⟩ := hx
  have HXC := Lib.hid hxc
  clear hf hfi hnil hxc wi wk
  unfold maxLen at hl hL
  go_enter Try.func3, Try.ntmps3
  go_wp2_with fail
  refine (awake_any _).mono ?_
  rintro e w1 ⟨rfl, hb1⟩
  have HB1 := Lib.hid hb1
  clear hb1
  by_cases hl60 : 60 < l.length
  · have hlI : (60 : Int) < (l.length : Int) := by omega
    go_wp2
    go_ret
    exact ⟨rfl, HB1.out⟩
  have hlI : ¬ (60 : Int) < (l.length : Int) := by omega
  by_cases hL60 : 60 < L.length
  · have hLI : (60 : Int) < (L.length : Int) := by omega
    go_wp2
    go_ret
    exact ⟨rfl, HB1.out⟩
  have hLI : ¬ (60 : Int) < (L.length : Int) := by omega
  have cJ := joined_any (.slice ar l.length cap) w1 l (HV.out.below HB1.out (Nat.le_refl _)) HF.out (by omega)
  go_wp2_with fail
  refine cJ.mono ?_
  rintro e wj ⟨K, K2, J, ok, rfl, hJl, hB⟩
  have HB := Lib.hid hB
  have HG := Lib.hid hB.good
  have HBEL : Hid (Below w.heap.size w wj) := Lib.hid (HB1.out.trans (hB.bel.mono HB1.out.size))
  clear hB cJ
  cases ok with
  | false =>
    go_wp2
    go_ret
    exact ⟨rfl, HBEL.out⟩
  | true =>
    have hJ9 : J.length ≤ 900000 := by omega
    go_wp2
    go_loopw [12, 13, 14] (fun x y z wr => Rows2 L wj x y z wr) (fun _ _ z _ => L.length + 1 - (intOf z).toNat)
    case atStart => exact ⟨0, rfl, by omega, ownE.nil _ _, ownE.nil _ _, Below.refl _ _⟩
    case round =>
      obtain ⟨j, rfl, hj, hop, hoc, hbj⟩ := hrel
      have HOP := Lib.hid hop
      have HOC := Lib.hid hoc
      have HBJ := Lib.hid hbj
      clear hop hoc hbj
      by_cases hgo : j < L.length
      · have hgoI : (j : Int) < (L.length : Int) := by omega
        obtain ⟨ad, rfl, hadb, _⟩ := HXC.out j hgo
        obtain ⟨⟨p, q, n⟩, hp⟩ : ∃ q, L[j] = q := ⟨_, rfl⟩
        have hbw : Below w.heap.size w wr := HBEL.out.trans (HBJ.out.mono HBEL.out.size)
        have hat : At3 wr (ad.add (j * 3)) p q n := by
          have := items_at HX.out hbw hgo
          rw [hp] at this; exact this
        have hlt : (ad.add (j * 3)).block < wr.heap.size := by rw [add_block]; have := hbw.size; omega
        have HAT := Lib.hid hat
        have HLT := Lib.hid hlt
        have HP := Lib.hid hp
        have HSZ : Hid (wj.heap.size ≤ wr.heap.size) := Lib.hid HBJ.out.size
        obtain ⟨c0, c1, c2⟩ := hat
        clear hp hbw hlt
        obtain ⟨P0, hP0⟩ : ∃ P0, P0 = (L.take j).map prs := ⟨_, rfl⟩
        obtain ⟨C0, hC0⟩ : ∃ C0, C0 = (L.take j).map cnt := ⟨_, rfl⟩
        rw [← hP0] at HOP
        rw [← hC0] at HOC
        have HPl : Hid (P0.length ≤ 60) := Lib.hid (by rw [hP0, List.length_map, List.length_take]; omega)
        have HCl : Hid (C0.length ≤ 60) := Lib.hid (by rw [hC0, List.length_map, List.length_take]; omega)
        have HPC := Lib.hid (And.intro hP0 hC0)
        clear hP0 hC0
        have bz := Below.refl wr.heap.size wr
        have G1 : Hid (Below wr.heap.size wr (wr.alloc (.cells #[.int .i64 p, .int .i64 q] 31)).drew) := Lib.hid (bz.alloc (Nat.le_refl _) _).drew
        have G6 : Hid (Below wr.heap.size wr (wr.alloc (.cells #[.int .i64 n] 3)).drew) := Lib.hid (bz.alloc (Nat.le_refl _) _).drew
        have G2 : Hid (Below wr.heap.size wr ((wr.alloc (.cells #[.int .i64 p, .int .i64 q] 31)).alloc (.cells #[.int .i64 n] 3)).drew) := Lib.hid ((bz.alloc (Nat.le_refl _) _).alloc (by simp) _).drew
        have G4 : Hid (Below wr.heap.size wr ((wr.alloc (.cells #[.int .i64 n] 3)).alloc (.cells #[.int .i64 p, .int .i64 q] 31)).drew) := Lib.hid ((bz.alloc (Nat.le_refl _) _).alloc (by simp) _).drew
        have LA1 : Hid (eltsAt pairE (wr.alloc (.cells #[.int .i64 p, .int .i64 q] 31)).drew (.slice (some ⟨wr.heap.size, 0, none⟩) 1 1) [(p, q)]) := Lib.hid ((one_elt pairE wr (p, q)).drew 1)
        have LB6 : Hid (eltsAt intE (wr.alloc (.cells #[.int .i64 n] 3)).drew (.slice (some ⟨wr.heap.size, 0, none⟩) 1 1) [n]) := Lib.hid ((one_elt intE wr n).drew 1)
        have LA2 : Hid (eltsAt pairE ((wr.alloc (.cells #[.int .i64 p, .int .i64 q] 31)).alloc (.cells #[.int .i64 n] 3)).drew (.slice (some ⟨wr.heap.size, 0, none⟩) 1 1) [(p, q)]) := Lib.hid (((one_elt pairE wr (p, q)).below ((Below.refl _ _).alloc (Nat.le_refl _) _) (Nat.le_refl _)).drew 1)
        have LB2 : Hid (eltsAt intE ((wr.alloc (.cells #[.int .i64 p, .int .i64 q] 31)).alloc (.cells #[.int .i64 n] 3)).drew (.slice (some ⟨wr.heap.size + 1, 0, none⟩) 1 1) [n]) := Lib.hid (by
          have := (one_elt intE (wr.alloc (.cells #[.int .i64 p, .int .i64 q] 31)) n).drew 1
          rwa [World.size_alloc] at this)
        have LB4 : Hid (eltsAt intE ((wr.alloc (.cells #[.int .i64 n] 3)).alloc (.cells #[.int .i64 p, .int .i64 q] 31)).drew (.slice (some ⟨wr.heap.size, 0, none⟩) 1 1) [n]) := Lib.hid (((one_elt intE wr n).below ((Below.refl _ _).alloc (Nat.le_refl _) _) (Nat.le_refl _)).drew 1)
        have LA4 : Hid (eltsAt pairE ((wr.alloc (.cells #[.int .i64 n] 3)).alloc (.cells #[.int .i64 p, .int .i64 q] 31)).drew (.slice (some ⟨wr.heap.size + 1, 0, none⟩) 1 1) [(p, q)]) := Lib.hid (by
          have := (one_elt pairE (wr.alloc (.cells #[.int .i64 n] 3)) (p, q)).drew 1
          rwa [World.size_alloc] at this)
        have KEYX : Hid (∀ W, Below wj.heap.size wj W → At3 W (ad.add (j * 3)) p q n) := Lib.hid (fun W hW => by
          have := items_at HX.out (HBEL.out.trans (hW.mono HBEL.out.size)) hgo
          rw [HP.out] at this; exact this)
        have OP1 := Lib.hid (HOP.out.below G1.out)
        have OP2 := Lib.hid (HOP.out.below G2.out)
        have OP4 := Lib.hid (HOP.out.below G4.out)
        have OC6 := Lib.hid (HOC.out.below G6.out)
        have OC2 := Lib.hid (HOC.out.below G2.out)
        have OC4 := Lib.hid (HOC.out.below G4.out)
        have OC1 := Lib.hid (HOC.out.below G1.out)
        have OP6 := Lib.hid (HOP.out.below G6.out)
        have SZ1 := Lib.hid (Nat.le_trans HSZ.out G1.out.size)
        have SZ2 := Lib.hid (Nat.le_trans HSZ.out G2.out.size)
        have SZ4 := Lib.hid (Nat.le_trans HSZ.out G4.out.size)
        have SZ6 := Lib.hid (Nat.le_trans HSZ.out G6.out.size)
        have BJ1 := Lib.hid (HBJ.out.trans (G1.out.mono HSZ.out))
        have BJ2 := Lib.hid (HBJ.out.trans (G2.out.mono HSZ.out))
        have BJ4 := Lib.hid (HBJ.out.trans (G4.out.mono HSZ.out))
        have BJ6 := Lib.hid (HBJ.out.trans (G6.out.mono HSZ.out))
        have X1 := HAT.out.below HLT.out G1.out
        have X6 := HAT.out.below HLT.out G6.out
        have X2 := HAT.out.below HLT.out G2.out
        have X4 := HAT.out.below HLT.out G4.out
        have HX1 := Lib.hid X1; have HX6 := Lib.hid X6; have HX2 := Lib.hid X2; have HX4 := Lib.hid X4
        clear bz X1 X6 X2 X4
        go_wp2_with fail
        go_region_held3 (fun w' => w'.cell? (ad.add (j * 3)) = some (.int .i64 p) ∧ w'.cell? ⟨(ad.add (j * 3)).block, (ad.add (j * 3)).off + 1, none⟩ = some (.int .i64 q) ∧ w'.cell? ⟨(ad.add (j * 3)).block, (ad.add (j * 3)).off + 2, none⟩ = some (.int .i64 n))
          (first | exact ⟨c0, c1, c2⟩ | with_reducible exact HX1.out | with_reducible exact HX6.out | with_reducible exact HX2.out | with_reducible exact HX4.out | with_reducible exact XA.out | with_reducible exact XB.out | with_reducible exact XC.out | exact trivial) (first
          | (refine step_append_elts intE rfl (.tmp 54) (.tmp 60) rfl wj.heap.size u13 _ C0 [n] rfl rfl HQC.out HQB.out (someNone _ _ _) (by have := HCl.out; simp only [List.length_singleton]; omega) HQJ.out.size ?_
             intro r3 w3 ho3 hg3 _
             have HP3 : Hid (ownE pairE w3 wj.heap.size r2 (P0 ++ [(p, q)])) := Lib.hid (own_pairs HQP.out HQC.out hg3)
             have HC3 : Hid (ownE intE w3 wj.heap.size r3 (C0 ++ [n])) := Lib.hid ho3
             have HJ3 : Hid (Below wj.heap.size wj w3) := Lib.hid (below_own2 HQJ.out hg3 HQC.out)
             have XC := Lib.hid (KEYX.out w3 HJ3.out)
             clear ho3 hg3)
          | (refine step_append_elts pairE rfl (.tmp 46) (.tmp 52) rfl wj.heap.size u12 _ P0 [(p, q)] rfl rfl HRP.out HRA.out (someNone _ _ _) (by have := HPl.out; simp only [List.length_singleton]; omega) HRJ.out.size ?_
             intro r3 w3 ho3 hg3 _
             have HC3 : Hid (ownE intE w3 wj.heap.size r2 (C0 ++ [n])) := Lib.hid (own_ints HRP.out HRC.out hg3)
             have HP3 : Hid (ownE pairE w3 wj.heap.size r3 (P0 ++ [(p, q)])) := Lib.hid ho3
             have HJ3 : Hid (Below wj.heap.size wj w3) := Lib.hid (below_own2 HRJ.out hg3 HRP.out)
             have XC := Lib.hid (KEYX.out w3 HJ3.out)
             clear ho3 hg3)
          | (refine step_append_elts pairE rfl (.tmp 46) (.tmp 52) rfl wj.heap.size u12 (.slice (some ⟨wr.heap.size + 1, 0, none⟩) 1 1) P0 [(p, q)] rfl rfl (by with_reducible exact OP4.out) (by with_reducible exact LA4.out) (someNone _ _ _) (by have := HPl.out; simp only [List.length_singleton]; omega) (by with_reducible exact SZ4.out) ?_
             intro r2 w2 ho2 hg2 _
             have HQP0 : Hid (ownE pairE w2 wj.heap.size r2 (P0 ++ [(p, q)])) := Lib.hid ho2
             have HQC0 := Lib.hid (own_ints OP4.out OC4.out hg2)
             have HJ2 : Hid (Below wj.heap.size wj w2) := Lib.hid (below_own2 BJ4.out hg2 OP4.out)
             have XA := Lib.hid (KEYX.out w2 HJ2.out)
             have HQP := Lib.hid HQP0.out
             have HQC := Lib.hid HQC0.out
             have HQB := Lib.hid (lit_kept LB4.out HOP.out (by simp) (by simp <;> omega) hg2)
             have HQJ := Lib.hid HJ2.out
             clear ho2 hg2)
          | (refine step_append_elts pairE rfl (.tmp 46) (.tmp 52) rfl wj.heap.size u12 (.slice (some ⟨wr.heap.size, 0, none⟩) 1 1) P0 [(p, q)] rfl rfl (by with_reducible exact OP2.out) (by with_reducible exact LA2.out) (someNone _ _ _) (by have := HPl.out; simp only [List.length_singleton]; omega) (by with_reducible exact SZ2.out) ?_
             intro r2 w2 ho2 hg2 _
             have HQP0 : Hid (ownE pairE w2 wj.heap.size r2 (P0 ++ [(p, q)])) := Lib.hid ho2
             have HQC0 := Lib.hid (own_ints OP2.out OC2.out hg2)
             have HJ2 : Hid (Below wj.heap.size wj w2) := Lib.hid (below_own2 BJ2.out hg2 OP2.out)
             have XA := Lib.hid (KEYX.out w2 HJ2.out)
             have HQP := Lib.hid HQP0.out
             have HQC := Lib.hid HQC0.out
             have HQB := Lib.hid (lit_kept LB2.out HOP.out (by simp) (by simp <;> omega) hg2)
             have HQJ := Lib.hid HJ2.out
             clear ho2 hg2)
          | (refine step_append_elts pairE rfl (.tmp 46) (.tmp 52) rfl wj.heap.size u12 (.slice (some ⟨wr.heap.size, 0, none⟩) 1 1) P0 [(p, q)] rfl rfl (by with_reducible exact OP1.out) (by with_reducible exact LA1.out) (someNone _ _ _) (by have := HPl.out; simp only [List.length_singleton]; omega) (by with_reducible exact SZ1.out) ?_
             intro r2 w2 ho2 hg2 _
             have HQP0 : Hid (ownE pairE w2 wj.heap.size r2 (P0 ++ [(p, q)])) := Lib.hid ho2
             have HQC0 := Lib.hid (own_ints OP1.out OC1.out hg2)
             have HJ2 : Hid (Below wj.heap.size wj w2) := Lib.hid (below_own2 BJ1.out hg2 OP1.out)
             have XA := Lib.hid (KEYX.out w2 HJ2.out)
             have HQP := Lib.hid (HQP0.out.alloc (.cells #[.int .i64 n] 3))
             have HQC := Lib.hid (HQC0.out.alloc (.cells #[.int .i64 n] 3))
             have HQB : Hid (eltsAt intE (w2.alloc (.cells #[.int .i64 n] 3)) (.slice (some ⟨w2.heap.size, 0, none⟩) 1 1) [n]) := Lib.hid (one_elt intE w2 n)
             have HQJ := Lib.hid (HJ2.out.alloc HJ2.out.size (.cells #[.int .i64 n] 3))
             have XB := Lib.hid (KEYX.out _ HQJ.out)
             clear ho2 hg2)
          | (refine step_append_elts intE rfl (.tmp 54) (.tmp 60) rfl wj.heap.size u13 (.slice (some ⟨wr.heap.size + 1, 0, none⟩) 1 1) C0 [n] rfl rfl (by with_reducible exact OC2.out) (by with_reducible exact LB2.out) (someNone _ _ _) (by have := HCl.out; simp only [List.length_singleton]; omega) (by with_reducible exact SZ2.out) ?_
             intro r2 w2 ho2 hg2 _
             have HRC0 : Hid (ownE intE w2 wj.heap.size r2 (C0 ++ [n])) := Lib.hid ho2
             have HRP0 := Lib.hid (own_pairs OP2.out OC2.out hg2)
             have HJ2 : Hid (Below wj.heap.size wj w2) := Lib.hid (below_own2 BJ2.out hg2 OC2.out)
             have XA := Lib.hid (KEYX.out w2 HJ2.out)
             have HRC := Lib.hid HRC0.out
             have HRP := Lib.hid HRP0.out
             have HRA := Lib.hid (lit_kept LA2.out HOC.out (by simp) (by simp <;> omega) hg2)
             have HRJ := Lib.hid HJ2.out
             clear ho2 hg2)
          | (refine step_append_elts intE rfl (.tmp 54) (.tmp 60) rfl wj.heap.size u13 (.slice (some ⟨wr.heap.size, 0, none⟩) 1 1) C0 [n] rfl rfl (by with_reducible exact OC4.out) (by with_reducible exact LB4.out) (someNone _ _ _) (by have := HCl.out; simp only [List.length_singleton]; omega) (by with_reducible exact SZ4.out) ?_
             intro r2 w2 ho2 hg2 _
             have HRC0 : Hid (ownE intE w2 wj.heap.size r2 (C0 ++ [n])) := Lib.hid ho2
             have HRP0 := Lib.hid (own_pairs OP4.out OC4.out hg2)
             have HJ2 : Hid (Below wj.heap.size wj w2) := Lib.hid (below_own2 BJ4.out hg2 OC4.out)
             have XA := Lib.hid (KEYX.out w2 HJ2.out)
             have HRC := Lib.hid HRC0.out
             have HRP := Lib.hid HRP0.out
             have HRA := Lib.hid (lit_kept LA4.out HOC.out (by simp) (by simp <;> omega) hg2)
             have HRJ := Lib.hid HJ2.out
             clear ho2 hg2)
          | (refine step_append_elts intE rfl (.tmp 54) (.tmp 60) rfl wj.heap.size u13 (.slice (some ⟨wr.heap.size, 0, none⟩) 1 1) C0 [n] rfl rfl (by with_reducible exact OC6.out) (by with_reducible exact LB6.out) (someNone _ _ _) (by have := HCl.out; simp only [List.length_singleton]; omega) (by with_reducible exact SZ6.out) ?_
             intro r2 w2 ho2 hg2 _
             have HRC0 : Hid (ownE intE w2 wj.heap.size r2 (C0 ++ [n])) := Lib.hid ho2
             have HRP0 := Lib.hid (own_pairs OP6.out OC6.out hg2)
             have HJ2 : Hid (Below wj.heap.size wj w2) := Lib.hid (below_own2 BJ6.out hg2 OC6.out)
             have XA := Lib.hid (KEYX.out w2 HJ2.out)
             have HRC := Lib.hid (HRC0.out.alloc (.cells #[.int .i64 p, .int .i64 q] 31))
             have HRP := Lib.hid (HRP0.out.alloc (.cells #[.int .i64 p, .int .i64 q] 31))
             have HRA : Hid (eltsAt pairE (w2.alloc (.cells #[.int .i64 p, .int .i64 q] 31)) (.slice (some ⟨w2.heap.size, 0, none⟩) 1 1) [(p, q)]) := Lib.hid (one_elt pairE w2 (p, q))
             have HRJ := Lib.hid (HJ2.out.alloc HJ2.out.size (.cells #[.int .i64 p, .int .i64 q] 31))
             have XB := Lib.hid (KEYX.out _ HRJ.out)
             clear ho2 hg2))
        all_goals clear OP1 OP2 OP4 OP6 OC1 OC2 OC4 OC6 SZ1 SZ2 SZ4 SZ6 BJ1 BJ2 BJ4 BJ6 LA1 LA2 LA4 LB2 LB4 LB6 G1 G2 G4 G6 HX1 HX2 HX4 HX6 c0 c1 c2
        all_goals go_wp2
        all_goals go_roundw
        all_goals try (case measure => simp [intOf]; omega)
        all_goals exact ⟨j + 1, by simp, hgo, by rw [take_prs hgo HP.out, ← HPC.out.1]; exact HP3.out, by rw [take_cnt hgo HP.out, ← HPC.out.2]; exact HC3.out, HJ3.out⟩
      · have hgoI : ¬ (j : Int) < (L.length : Int) := by omega
        have hjL : (L.take j) = L := List.take_of_length_le (by omega)
        rw [hjL] at HOP HOC
        clear hjL
        obtain ⟨pa, pc, rfl, hpc⟩ := HOP.out.form
        obtain ⟨na, nc, rfl, hnc⟩ := HOC.out.form
        rw [List.length_map] at HOP HOC hpc hnc
        rw [List.length_map, List.length_map]
        have HBr : Hid (Both w1 K K2 J J wr) := Lib.hid (HB.out.below HBJ.out)
        have HWr : Hid (Below w.heap.size w wr) := Lib.hid (HBEL.out.trans (HBJ.out.mono HBEL.out.size))
        have HPR : Hid (eltsAt pairE wr (.slice pa L.length pc) (L.map prs)) := Lib.hid HOP.out.reads
        have HCR : Hid (eltsAt intE wr (.slice na L.length nc) (L.map cnt)) := Lib.hid HOC.out.reads
        clear HOP HOC HBJ HBEL HB HB1
        have cO := orderB HBr.out hJ9 HPR.out HCR.out (by omega) HFI.out
        go_wp2_with fail
        refine cO.mono ?_
        rintro e w3 ⟨ov, d, rfl, hod, hout, hb3⟩
        have HOD := Lib.hid hod
        have HOUT := Lib.hid hout
        have HW3 : Hid (Below wr.heap.size wr w3) := Lib.hid hb3
        clear hod hout hb3 cO
        have cS := sortB (HBr.out.below HW3.out) hJ9 (HX.out.below (HWr.out.trans (HW3.out.mono HWr.out.size)) (Nat.le_refl _)) HN.out (by omega) HFI.out
        go_wp2_with fail
        refine cS.mono ?_
        rintro e w4 ⟨g, d2, rfl, hel, hso, hb4⟩
        have hdd := sorted_order hso HOD.out
        subst hdd
        have HEL := Lib.hid hel
        have HSO := Lib.hid hso
        have HW4 : Hid (Below wr.heap.size wr w4) := Lib.hid (HW3.out.trans (hb4.mono HW3.out.size))
        have HOUT4 := Lib.hid (HOUT.out.below hb4)
        clear hel hso hb4 cS HOD HOUT
        by_cases hL0 : L.length = 0
        · have hLn : L = [] := List.length_eq_zero_iff.1 hL0
          subst hLn
          have hd0 : d2 = [] := by have := HSO.out.len; exact List.length_eq_zero_iff.1 (by simpa using this)
          subst hd0
          have cB := bestNoneB (HBr.out.below HW4.out) xr cax
          go_wp2_with fail
          refine cB.mono ?_
          rintro e w5 ⟨rfl, hb5⟩
          have HW5 : Hid (Below w.heap.size w w5) := Lib.hid (HWr.out.trans ((HW4.out.trans (hb5.mono HW4.out.size)).mono HWr.out.size))
          clear hb5 cB
          have HW6 : Hid (Below w.heap.size w (w5.alloc (.cells #[.int .i64 0, .int .i64 0, .int .i64 0] 33))) := Lib.hid (HW5.out.alloc HW5.out.size _)
          go_wp2
          go_quiet (fail)
          have HW7 := Lib.hid (below_drewN' HW6.out nq)
          generalize (w5.alloc (.cells #[.int .i64 0, .int .i64 0, .int .i64 0] 33)).drewN nq = w7 at *
          go_wp2
          refine wp_loop_rounds 1 ?_
          rw [rounds_succ]
          go_wp2
          go_ret
          exact ⟨rfl, HW7.out⟩
        · have h0 : 0 < L.length := by omega
          have h0I : (0 : Int) < (L.length : Int) := by omega
          have cB := bestB (HBr.out.below HW4.out) hJ9 (HX.out.below (HWr.out.trans (HW4.out.mono HWr.out.size)) (Nat.le_refl _)) h0 (by omega) HFI.out
          go_wp2_with fail
          refine cB.mono ?_
          rintro e w5 ⟨bi, rfl, hbu, hb5⟩
          have HBU := Lib.hid hbu
          have HW5 : Hid (Below wr.heap.size wr w5) := Lib.hid (HW4.out.trans (hb5.mono HW4.out.size))
          have HOUT5 := Lib.hid (HOUT4.out.below hb5)
          have HEL5 := Lib.hid (HEL.out.below hb5 (Nat.le_refl _))
          generalize hs : itOf L bi = s
          have HS := Lib.hid hs
          clear hbu hb5 hs cB HOUT4 HEL
          obtain ⟨s1, s2, s3⟩ := s
          unfold itemV
          simp only
          obtain ⟨w6, hw6⟩ : ∃ w6, w6 = w5.alloc (.cells #[.int .i64 s1, .int .i64 s2, .int .i64 s3] 33) := ⟨_, rfl⟩
          have HG6 : Hid (Below w5.heap.size w5 w6) := Lib.hid (by rw [hw6]; exact (Below.refl _ w5).alloc (Nat.le_refl _) _)
          have b0 : w6.cell? ⟨w5.heap.size, 0, none⟩ = some (.int .i64 s1) := by rw [hw6]; simp
          have b1 : w6.cell? ⟨w5.heap.size, 1, none⟩ = some (.int .i64 s2) := by rw [hw6]; simp
          have b2 : w6.cell? ⟨w5.heap.size, 2, none⟩ = some (.int .i64 s3) := by rw [hw6]; simp
          have HW6 : Hid (Below wr.heap.size wr w6) := Lib.hid (HW5.out.trans (HG6.out.mono HW5.out.size))
          have HWW : Hid (Below w.heap.size w w6) := Lib.hid (HWr.out.trans (HW6.out.mono HWr.out.size))
          have HOUT6 := Lib.hid (HOUT5.out.below HG6.out)
          have HEL6 := Lib.hid (HEL5.out.below HG6.out (Nat.le_refl _))
          have HP6 := Lib.hid (HPR.out.below HW6.out (Nat.le_refl _))
          have HC6 := Lib.hid (HCR.out.below HW6.out (Nat.le_refl _))
          have HB6 := Lib.hid (HBr.out.below HW6.out)
          have hw' := hw6.symm
          clear hw6 HOUT5 HEL5 HPR HCR HW4 HW3 HW5 HG6 HBr HW6 HWr
          have hdl : d2.length = L.length := HSO.out.len
          have HDL := Lib.hid hdl
          obtain ⟨_, _, oa, oc, rfl, hoc⟩ := HOUT6.out
          rw [hdl] at hoc
          rw [hdl]
          have HOE : Hid (eltsAt intE w6 (.slice oa L.length oc) (d2.map Int.ofNat)) := Lib.hid (by have := HOUT6.out.1; rwa [hdl] at this)
          clear HOUT6
          obtain ⟨ao, rfl⟩ : ∃ ad, oa = some ad := by
            obtain ⟨_, _, e1, hc⟩ := HOE.out
            obtain ⟨ad, e2, _⟩ := hc 0 (by rw [List.length_map]; omega)
            exact ⟨ad, (Value.slice.inj e1).1.trans e2⟩
          obtain ⟨ap, rfl⟩ : ∃ ad, pa = some ad := by
            obtain ⟨_, _, e1, hc⟩ := HP6.out
            obtain ⟨ad, e2, _⟩ := hc 0 (by rw [List.length_map]; omega)
            exact ⟨ad, (Value.slice.inj e1).1.trans e2⟩
          obtain ⟨an, rfl⟩ : ∃ ad, na = some ad := by
            obtain ⟨_, _, e1, hc⟩ := HC6.out
            obtain ⟨ad, e2, _⟩ := hc 0 (by rw [List.length_map]; omega)
            exact ⟨ad, (Value.slice.inj e1).1.trans e2⟩
          obtain ⟨ad, rfl, _⟩ := HXC.out 0 h0
          have hd0 : 0 < d2.length := by omega
          have hbL : bi < L.length := HBU.out.1
          have o0 : w6.cell? ao = some (.int .i64 (bi : Int)) := by
            have := ints_cell HOE.out (Below.refl _ w6) (k := 0) (by rw [List.length_map]; exact hd0)
            rw [List.getElem_map, sorted_first HSO.out HBU.out hd0, add_zero_any] at this
            exact this
          obtain ⟨t0, t1, t2⟩ : At3 w6 (ad.add (bi * 3)) s1 s2 s3 := by
            have := items_at HX.out HWW.out hbL
            rw [← it_at hbL, HS.out] at this; exact this
          have hbI : (bi : Int) < (L.length : Int) := by omega
          have h0B : decide ((0 : Int) < (L.length : Int)) = true := decide_eq_true h0I
          go_wp2
          go_quiet (fail)
          have g0 : Hid (w6.drewN nq = w6.drewN nq) := Lib.hid rfl
          clear b0 b1 b2 o0 t0 t1 t2 hw' g0
          go_wp2
          go_loopw [19] (fun s wr => MToRel L.length w6 s wr) (fun s _ => L.length + 1 - (intOf s).toNat)
          case atStart => exact ⟨0, nq, rfl, by omega, rfl⟩
          case round =>
            obtain ⟨j2, m, rfl, hj2, hwr⟩ := hrel
            have HM := Lib.hid hwr
            have HWm : Hid (Below w6.heap.size w6 wr) := Lib.hid (by rw [hwr]; exact below_drewN' (Below.refl _ _) _)
            have HWQ : Hid (Below w.heap.size w wr) := Lib.hid (HWW.out.trans (HWm.out.mono HWW.out.size))
            have HBQ : Hid (Both w1 K K2 J J wr) := Lib.hid (HB6.out.below HWm.out)
            clear hwr
            by_cases hg2 : j2 < L.length
            · have hg2I : (j2 : Int) < (L.length : Int) := by omega
              have hdj : j2 < d2.length := by rw [HDL.out]; exact hg2
              obtain ⟨e, he⟩ : ∃ e, d2[j2] = e := ⟨_, rfl⟩
              have heL : e < L.length := by rw [← he]; exact HSO.out.lt hdj
              have heI : (e : Int) < (L.length : Int) := by omega
              obtain ⟨⟨p, q, n⟩, hp⟩ : ∃ q, itOf L j2 = q := ⟨_, rfl⟩
              obtain ⟨⟨a1, a2, a3⟩, ha⟩ : ∃ q, itOf L e = q := ⟨_, rfl⟩
              obtain ⟨x0, x1, x2⟩ : At3 wr (ad.add (j2 * 3)) p q n := by
                have := items_at HX.out HWQ.out hg2
                rw [← it_at hg2, hp] at this; exact this
              obtain ⟨y0, y1, y2⟩ : At3 wr (ad.add (e * 3)) a1 a2 a3 := by
                have := items_at HX.out HWQ.out heL
                rw [← it_at heL, ha] at this; exact this
              have hm0 : (d2.map (itOf L))[j2]'(by rw [List.length_map]; exact hdj) = (a1, a2, a3) := by rw [List.getElem_map, he, ha]
              have z0 := elts_at HEL6.out HWm.out (k := j2) (by rw [List.length_map]; exact hdj) 0 (.int .i64 a1) (by rw [hm0]; rfl)
              have z1 := elts_at HEL6.out HWm.out (k := j2) (by rw [List.length_map]; exact hdj) 1 (.int .i64 a2) (by rw [hm0]; rfl)
              have z2 := elts_at HEL6.out HWm.out (k := j2) (by rw [List.length_map]; exact hdj) 2 (.int .i64 a3) (by rw [hm0]; rfl)
              rw [add_zero_off, show itemE.n = 3 from rfl] at z0 z1 z2
              rw [Nat.add_zero] at z0
              have o0 : wr.cell? (ao.add j2) = some (.int .i64 (e : Int)) := by
                have := ints_cell HOE.out HWm.out (k := j2) (by rw [List.length_map]; exact hdj)
                rw [List.getElem_map, he] at this
                exact this
              have hLj : L[j2] = (p, q, n) := by rw [← it_at hg2]; exact hp
              obtain ⟨p0, p1⟩ : wr.cell? (ap.add (j2 * 2)) = some (.int .i64 p) ∧ wr.cell? ⟨(ap.add (j2 * 2)).block, (ap.add (j2 * 2)).off + 1, none⟩ = some (.int .i64 q) := by
                have := pairs_at HP6.out HWm.out (k := j2) (by rw [List.length_map]; exact hg2)
                rw [List.getElem_map, hLj] at this
                exact this
              have n0 : wr.cell? (an.add j2) = some (.int .i64 n) := by
                have := ints_cell HC6.out HWm.out (k := j2) (by rw [List.length_map]; exact hg2)
                rw [List.getElem_map, hLj] at this
                exact this
              clear he hp ha hm0 hLj hdj
              go_wp2
              go_quiet (fail)
              clear x0 x1 x2 y0 y1 y2 z0 z1 z2 o0 p0 p1 n0
              go_wp2
              go_roundw
              case rel => exact mtoRel_step hg2 HM.out _
              case measure => simp [intOf]; omega
            · have hg2I : ¬ (j2 : Int) < (L.length : Int) := by omega
              have hLz : ¬ (L.length : Int) = 0 := by omega
              have hLzB : ((L.length : Int) == 0) = false := beq_eq_false_iff_ne.2 hLz
              have hp0 := Int.emod_nonneg i (b := (L.length : Int)) (by omega)
              have hp1 := Int.emod_lt_of_pos i (b := (L.length : Int)) (by omega)
              have hq0 := Int.emod_nonneg k (b := (L.length : Int)) (by omega)
              have hq1 := Int.emod_lt_of_pos k (b := (L.length : Int)) (by omega)
              obtain ⟨e, he⟩ : ∃ p : Nat, i % (L.length : Int) = (p : Int) := ⟨(i % (L.length : Int)).toNat, by omega⟩
              obtain ⟨f, hf⟩ : ∃ p : Nat, k % (L.length : Int) = (p : Int) := ⟨(k % (L.length : Int)).toNat, by omega⟩
              have he2 : Int.tmod i (L.length : Int) = (e : Int) := by rw [Int.tmod_eq_emod_of_nonneg i0]; exact he
              have hf2 : Int.tmod k (L.length : Int) = (f : Int) := by rw [Int.tmod_eq_emod_of_nonneg k0]; exact hf
              have heL : e < L.length := by omega
              have hfL : f < L.length := by omega
              have he0 : (0 : Int) ≤ (e : Int) := by omega
              have hf0 : (0 : Int) ≤ (f : Int) := by omega
              have heI : (e : Int) < (L.length : Int) := by omega
              have hfI : (f : Int) < (L.length : Int) := by omega
              have hwe : IntKind.i64.wrap (e : Int) = (e : Int) := by rw [IntKind.wrap_i64]; omega
              have hwf : IntKind.i64.wrap (f : Int) = (f : Int) := by rw [IntKind.wrap_i64]; omega
              have hwi : IntKind.i64.wrap i = i := by rw [IntKind.wrap_i64]; omega
              have hwk : IntKind.i64.wrap k = k := by rw [IntKind.wrap_i64]; omega
              obtain ⟨⟨p, q, n⟩, hp⟩ : ∃ q, itOf L e = q := ⟨_, rfl⟩
              obtain ⟨⟨r, s, t⟩, hr⟩ : ∃ q, itOf L f = q := ⟨_, rfl⟩
              have HFP : Hid (FitsI (p, q, n)) := Lib.hid (by rw [← hp]; exact it_fits HFI.out e)
              have HFR : Hid (FitsI (r, s, t)) := Lib.hid (by rw [← hr]; exact it_fits HFI.out f)
              obtain ⟨x0, x1, x2⟩ : At3 wr (ad.add (e * 3)) p q n := by
                have := items_at HX.out HWQ.out heL
                rw [← it_at heL, hp] at this; exact this
              obtain ⟨y0, y1, y2⟩ : At3 wr (ad.add (f * 3)) r s t := by
                have := items_at HX.out HWQ.out hfL
                rw [← it_at hfL, hr] at this; exact this
              have n1 := World.new_ne wr _ x0
              have n2 := World.new_ne wr _ x1
              have n3 := World.new_ne wr _ x2
              have n4 := World.new_ne wr _ y0
              have n5 := World.new_ne wr _ y1
              have n6 := World.new_ne wr _ y2
              clear hp0 hp1 hq0 hq1 hp hr
              go_wp2
              go_region_held3 (fun w' => w'.cell? (ad.add (e * 3)) = some (.int .i64 p) ∧ w'.cell? ⟨(ad.add (e * 3)).block, (ad.add (e * 3)).off + 1, none⟩ = some (.int .i64 q) ∧ w'.cell? ⟨(ad.add (e * 3)).block, (ad.add (e * 3)).off + 2, none⟩ = some (.int .i64 n) ∧ w'.cell? (ad.add (f * 3)) = some (.int .i64 r) ∧ w'.cell? ⟨(ad.add (f * 3)).block, (ad.add (f * 3)).off + 1, none⟩ = some (.int .i64 s) ∧ w'.cell? ⟨(ad.add (f * 3)).block, (ad.add (f * 3)).off + 2, none⟩ = some (.int .i64 t)) (go_keep) (fail)
              · obtain ⟨ws, hws⟩ : ∃ ws, ws = ((wr.alloc (.cells #[.int .i64 p, .int .i64 q, .int .i64 n] 33)).alloc (.cells #[.int .i64 r, .int .i64 s, .int .i64 t] 33)).drew := ⟨_, rfl⟩
                have HGW : Hid (Grown wr ws) := Lib.hid (by rw [hws]; exact (((Grown.refl wr).alloc _).alloc _).drew)
                have hbx : Box ws (wr.heap.size) p q n := by rw [hws]; exact ⟨by simp, by simp, by simp⟩
                have hbz : Box ws (wr.heap.size + 1) r s t := by rw [hws]; exact ⟨by simp, by simp, by simp⟩
                rw [← hws]
                obtain ⟨g0, g1, g2⟩ := box_g hbx
                obtain ⟨m0, m1, m2⟩ := box_g hbz
                have hBs := HBQ.out.grown HGW.out
                have c11 := fun m os => aheadG hBs hJ9 HFP.out HFR.out m os
                have c12 := fun m os => raheadG hBs hJ9 p q r s m os
                have c13 := fun m os => betterG hBs hJ9 HFP.out HFR.out m os
                have c14 := fun m os => rbetterG hBs hJ9 p q n r s t m os
                generalize aheadOf J (p, q) (r, s) = fa at c11 c12
                generalize betterOf J (p, q, n) (r, s, t) = fb at c13 c14
                clear hws hbx hbz hBs x0 x1 x2 y0 y1 y2 n1 n2 n3 n4 n5 n6
                go_wp2_with fail
                go_quiet_grown (first | (go_at_call 11; refine c11 _ _) | (go_at_call 12; refine c12 _ _) | (go_at_call 13; refine c13 _ _) | (go_at_call 14; refine c14 _ _))
                go_wp2
                go_ret
                exact ⟨rfl, HWQ.out.trans ((HGW.out.trans (Grown.of _ _ _)).below.mono HWQ.out.size)⟩
              · obtain ⟨ws, hws⟩ : ∃ ws, ws = ((wr.alloc (.cells #[.int .i64 r, .int .i64 s, .int .i64 t] 33)).alloc (.cells #[.int .i64 p, .int .i64 q, .int .i64 n] 33)).drew := ⟨_, rfl⟩
                have HGW : Hid (Grown wr ws) := Lib.hid (by rw [hws]; exact (((Grown.refl wr).alloc _).alloc _).drew)
                have hbx : Box ws (wr.heap.size + 1) p q n := by rw [hws]; exact ⟨by simp, by simp, by simp⟩
                have hbz : Box ws (wr.heap.size) r s t := by rw [hws]; exact ⟨by simp, by simp, by simp⟩
                rw [← hws]
                obtain ⟨g0, g1, g2⟩ := box_g hbx
                obtain ⟨m0, m1, m2⟩ := box_g hbz
                have hBs := HBQ.out.grown HGW.out
                have c11 := fun m os => aheadG hBs hJ9 HFP.out HFR.out m os
                have c12 := fun m os => raheadG hBs hJ9 p q r s m os
                have c13 := fun m os => betterG hBs hJ9 HFP.out HFR.out m os
                have c14 := fun m os => rbetterG hBs hJ9 p q n r s t m os
                generalize aheadOf J (p, q) (r, s) = fa at c11 c12
                generalize betterOf J (p, q, n) (r, s, t) = fb at c13 c14
                clear hws hbx hbz hBs x0 x1 x2 y0 y1 y2 n1 n2 n3 n4 n5 n6
                go_wp2_with fail
                go_quiet_grown (first | (go_at_call 11; refine c11 _ _) | (go_at_call 12; refine c12 _ _) | (go_at_call 13; refine c13 _ _) | (go_at_call 14; refine c14 _ _))
                go_wp2
                go_ret
                exact ⟨rfl, HWQ.out.trans ((HGW.out.trans (Grown.of _ _ _)).below.mono HWQ.out.size)⟩
end Go.Proofs.Ythjblamfkfclhaa
