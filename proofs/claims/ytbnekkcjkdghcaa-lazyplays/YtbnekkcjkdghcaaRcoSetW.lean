/- The document's set. -/
import Derived.Test.YtbnekkcjkdghcaaRcoSetP
import Derived.Deep.RegionHeld3
namespace Go.Proofs.Ytbnekkcjkdghcaa
open Go.RowKit Go.Maps
open Go.Sort (grow)

def RSetRel (w0 : World) (L : Cn) (p : Int × Int) (n : Int) (out m done i : Value) (wr : World) : Prop :=
  ∃ (k : Nat) (O : Cn) (d : Bool), i = .int .i64 (k : Int) ∧ done = .bool d ∧ ownE pairE wr w0.heap.size out (keysC O) ∧ ownE intE wr w0.heap.size m (valsC O) ∧ Below w0.heap.size w0 wr ∧ SInv L p n k O d
/-- What the document's set leaves: its own block alone is written over. -/
def RSRet (base K o : Nat) (cs : Array Value) (ty : TypeId) (v u : Value) (L : Cn) (w w' : World) : Prop := ∃ v' u', Rco w' base K o ((cs.setIfInBounds o v').setIfInBounds (o + 1) u') ty v' u' L ∧ Kept (fun k => k = K) w w' ∧ ∀ k, some k = v'.ownBlock ∨ some k = u'.ownBlock → k < w.heap.size → some k = v.ownBlock ∨ some k = u.ownBlock
set_option maxRecDepth 100000 in
theorem rset_end {w w0 wr : World} {base K o : Nat} {cs : Array Value} {ty : TypeId} {v u v0 u0 out m : Value} {L M : Cn} (hw : Below w.heap.size w w0) (hK : K < w.heap.size) (hge : base ≤ K) (hj : Below w0.heap.size w0 wr) (hc : Rco wr base K o cs ty v0 u0 L) (ho : ownE pairE wr w0.heap.size out (keysC M)) (hm : ownE intE wr w0.heap.size m (valsC M)) :
    RSRet base K o cs ty v u M w ((wr.setCell ⟨K, o, none⟩ out).setCell ⟨K, o + 1, none⟩ m) := by
  have hs := hw.size
  have h1 := heap_setCell_at (i := o) hc.box out
  have h2 := heap_setCell_at (i := o + 1) h1 m
  have hlt0 : o < cs.size := (Array.getElem?_eq_some_iff.1 hc.c0).1
  have hlt1 : o + 1 < cs.size := (Array.getElem?_eq_some_iff.1 hc.c1).1
  refine ⟨out, m, ⟨h2, ?_, ?_, hge, (ho.kept fun g hg => ?_).mono (by omega), (hm.kept fun g hg => ?_).mono (by omega)⟩, ?_, ?_⟩
  · rw [Array.getElem?_setIfInBounds_ne (by omega), Array.getElem?_setIfInBounds_self_of_lt hlt0]
  · rw [Array.getElem?_setIfInBounds_self_of_lt (by rw [Array.size_setIfInBounds]; exact hlt1)]
  · have := (ho.lt g hg).1
    rw [Below.heap_setCell _ _ _ _ (show g ≠ K by omega), Below.heap_setCell _ _ _ _ (show g ≠ K by omega)]
  · have := (hm.lt g hg).1
    rw [Below.heap_setCell _ _ _ _ (show g ≠ K by omega), Below.heap_setCell _ _ _ _ (show g ≠ K by omega)]
  · have hall : Below w.heap.size w wr := hw.trans (hj.mono hs)
    exact ((Kept.of_below (S := fun k => k = K) hall (Nat.le_refl _)).setCell _ _ fun _ => rfl).setCell _ _ fun _ => rfl
  · intro k h1 h2
    rcases h1 with h1 | h1
    · have := (ho.lt k h1.symm).1; omega
    · have := (hm.lt k h1.symm).1; omega
set_option maxRecDepth 100000 in
set_option maxHeartbeats 8000000 in
theorem rset_any (base K o : Nat) (cs : Array Value) (ty : TypeId) (v u : Value) (L : Cn) (p q n : Int) (w : World) (h : Rco w base K o cs ty v u L) (hl : L.length ≤ 1000) :
    Calls Try.prog 33 #[.pointer (some ⟨K, o, none⟩), .agg #[.int .i64 p, .int .i64 q], .int .i64 n] w fun e w' => e = .returned (.tuple #[]) ∧ RSRet base K o cs ty v u (setC L (p, q) n) w w' := by
  obtain ⟨w0, hw0⟩ : ∃ w0, w0 = w.alloc (.cells #[.int .i64 p, .int .i64 q] 41) := ⟨_, rfl⟩
  have hs0 : w0.heap.size = w.heap.size + 1 := by rw [hw0]; simp
  have HB0 : Hid (Below w.heap.size w w0) := Lib.hid (by rw [hw0]; exact (Below.refl _ w).alloc (Nat.le_refl _) _)
  have HKEY : Hid (∀ W, Below w0.heap.size w0 W → Rco W base K o cs ty v u L) := Lib.hid (fun W hW => (h.below HB0.out).below hW)
  have b0 : w0.cell? ⟨w.heap.size, 0, none⟩ = some (.int .i64 p) := by rw [hw0]; simp
  have b1 : w0.cell? ⟨w.heap.size, 1, none⟩ = some (.int .i64 q) := by rw [hw0]; simp
  have HBX : Hid (∀ W, Below w0.heap.size w0 W → W.cell? ⟨w.heap.size, 0, none⟩ = some (.int .i64 p) ∧ W.cell? ⟨w.heap.size, 1, none⟩ = some (.int .i64 q)) := Lib.hid (fun W hW => ⟨(hW.cell (by show w.heap.size < _; omega)).trans b0, (hW.cell (by show w.heap.size < _; omega)).trans b1⟩)
  have HKL : Hid (K < w.heap.size ∧ base ≤ K) := Lib.hid ⟨(h.lt K (.inl rfl)).2, h.ge⟩
  obtain ⟨N, hN⟩ : ∃ N, L.length = N := ⟨_, rfl⟩
  have HN := Lib.hid hN
  obtain ⟨a1, cp1, hv, _⟩ := h.keys.form
  obtain ⟨a2, cp2, hu, _⟩ := h.vals.form
  rw [keysC_len, hN] at hv
  rw [valsC_len, hN] at hu
  subst hv
  subst hu
  rw [hN] at hl
  have hw' := hw0.symm
  have hmixed : Try.prog.follows .mixedOrders = true := by kernel_rfl
  clear h hw0 b0 b1 hN hs0
  go_enter Try.func33, Try.ntmps33
  go_wp2
  clear hw'
  obtain ⟨bx, hbx⟩ : ∃ bx, bx = w.heap.size := ⟨_, rfl⟩
  rw [← hbx]
  rw [← hbx] at HBX
  have HBXE := Lib.hid hbx
  clear hbx
  go_loopw [6, 7, 8, 9] (fun a b c i wr => RSetRel w0 L (p, q) n a b c i wr) (fun _ _ _ i _ => N + 2 - (intOf i).toNat)
  case atStart => exact ⟨0, [], _, rfl, rfl, ownE.nil _ _, ownE.nil _ _, Below.refl _ _, SInv.start L (p, q) n⟩
  case round =>
    obtain ⟨k, O, d, rfl, rfl, hop, hoc, hbj, hinv⟩ := hrel
    have HOwr := Lib.hid hop; have HCwr := Lib.hid hoc; have HJwr := Lib.hid hbj; have HIN := Lib.hid hinv
    have hkN : k ≤ N + 1 := by have := hinv.le; rw [HN.out] at this; exact this
    have hlast : k ≤ N ∨ d = true := by have := hinv.last; rw [HN.out] at this; exact this
    have hO : O.length ≤ k + 1 := by have := hinv.size; cases d <;> simp at this <;> omega
    clear hop hoc hbj hinv
    by_cases hle : k ≤ N
    · have hleI : (k : Int) ≤ (N : Int) := by omega
      obtain ⟨P0, hP0⟩ : ∃ P0, P0 = keysC O := ⟨_, rfl⟩
      obtain ⟨C0, hC0⟩ : ∃ C0, C0 = valsC O := ⟨_, rfl⟩
      rw [← hP0] at HOwr
      rw [← hC0] at HCwr
      have HPl : Hid (P0.length ≤ 2000) := Lib.hid (by rw [hP0, keysC_len]; omega)
      have HCl : Hid (C0.length ≤ 2000) := Lib.hid (by rw [hC0, valsC_len]; omega)
      have HPC := Lib.hid (And.intro hP0 hC0)
      clear hP0 hC0 hlast hO hkN
      by_cases hgo : k < N
      · have hgoI : (k : Int) < (N : Int) := by omega
        have hk0 : (0 : Int) ≤ (k : Int) := by omega
        have hgoB : decide ((k : Int) < (N : Int)) = true := decide_eq_true hgoI
        have hgoN : decide (k < N) = true := decide_eq_true hgo
        have hneB : ((k : Int) == (N : Int)) = false := by simp; omega
        have hneN : (k == N) = false := by simp; omega
        have hkL : k < L.length := by rw [HN.out]; exact hgo
        have HKLL := Lib.hid hkL
        obtain ⟨ga, ca, gb, cb, ea, eb, t0, t1, t2⟩ := (HKEY.out wr HJwr.out).at hkL
        obtain ⟨rfl, ex1, ex2⟩ := Value.slice.inj ea
        obtain ⟨rfl, ex3, ex4⟩ := Value.slice.inj eb
        clear ex1 ex2 ex3 ex4
        obtain ⟨z0, z1, zc, hz⟩ : ∃ z0 z1 zc, L[k] = ((z0, z1), zc) := ⟨_, _, _, rfl⟩
        have HA : Hid (∀ W, Below w0.heap.size w0 W → At5 W K o ga gb k (.slice (some ⟨ga, 0, none⟩) N cp1) (.slice (some ⟨gb, 0, none⟩) N cp2) z0 z1 zc) := Lib.hid (fun W hW => by
          have hR := HKEY.out W hW
          obtain ⟨r0, r1, _, _⟩ := drcell hR
          obtain ⟨ga', ca', gb', cb', ea', eb', t0, t1, t2⟩ := hR.at hkL
          obtain ⟨e1, _, _⟩ := Value.slice.inj ea'
          obtain ⟨e2, _, _⟩ := Value.slice.inj eb'
          cases e1
          cases e2
          exact ⟨r0, r1, t0.trans (congrArg (fun y : (Int × Int) × Int => some (Value.int .i64 y.1.1)) hz), t1.trans (congrArg (fun y : (Int × Int) × Int => some (Value.int .i64 y.1.2)) hz), t2.trans (congrArg (fun y : (Int × Int) × Int => some (Value.int .i64 y.2)) hz)⟩)
        have HZ := Lib.hid hz
        clear ea eb hz t0 t1 t2 hkL
        cases d with
        | true =>
          obtain ⟨ka0, ka1, xa0, xa1, ya0⟩ := HA.out wr HJwr.out
          obtain ⟨qa0, qa1⟩ := HBX.out wr HJwr.out
          go_wp2_with fail
          go_quiet (fail)
          have HJwq : Hid (Below w0.heap.size w0 (wr.drewN nq)) := Lib.hid (below_drewN' HJwr.out _)
          have HOwq : Hid (ownE pairE (wr.drewN nq) w0.heap.size u6 P0) := Lib.hid (HOwr.out.drewN _)
          have HCwq : Hid (ownE intE (wr.drewN nq) w0.heap.size u7 C0) := Lib.hid (HCwr.out.drewN _)
          clear ka0 ka1 xa0 xa1 ya0 qa0 qa1
          generalize wr.drewN nq = wq at *
          obtain ⟨kb0, kb1, xb0, xb1, yb0⟩ := HA.out wq HJwq.out
          obtain ⟨qb0, qb1⟩ := HBX.out wq HJwq.out
          by_cases hpq : (z0, z1) = (p, q)
          · have e0 : z0 = p := congrArg Prod.fst hpq
            have e1 : z1 = q := congrArg Prod.snd hpq
            have HPQ := Lib.hid hpq
            subst e0
            subst e1
            have hne := pair_neq_no z0 z1
            clear hpq
            go_wp2_with fail
            go_quiet (fail)
            have HJwy : Hid (Below w0.heap.size w0 (wq.drewN nq)) := Lib.hid (below_drewN' HJwq.out _)
            have HOwy : Hid (ownE pairE (wq.drewN nq) w0.heap.size u6 P0) := Lib.hid (HOwq.out.drewN _)
            have HCwy : Hid (ownE intE (wq.drewN nq) w0.heap.size u7 C0) := Lib.hid (HCwq.out.drewN _)
            clear kb0 kb1 xb0 xb1 yb0 qb0 qb1
            generalize wq.drewN nq = wy at *
            go_wp2
            go_roundw
            case measure => simp [intOf] <;> omega
            case rel => exact ⟨k + 1, O, true, by simp, rfl, by rw [← HPC.out.1]; exact HOwy.out, by rw [← HPC.out.2]; exact HCwy.out, HJwy.out, HIN.out.s3 HKLL.out (congrArg Prod.fst HZ.out)⟩
          · have hne := pair_neq_yes hpq
            have HPQ := Lib.hid hpq
            clear hpq
            go_wp2_with fail
            go_quiet (fail)
            have HJwy : Hid (Below w0.heap.size w0 (wq.drewN nq)) := Lib.hid (below_drewN' HJwq.out _)
            have HOwy : Hid (ownE pairE (wq.drewN nq) w0.heap.size u6 P0) := Lib.hid (HOwq.out.drewN _)
            have HCwy : Hid (ownE intE (wq.drewN nq) w0.heap.size u7 C0) := Lib.hid (HCwq.out.drewN _)
            clear kb0 kb1 xb0 xb1 yb0 qb0 qb1
            generalize wq.drewN nq = wy at *
            clear hne
            have bz := Below.refl wy.heap.size wy
            have G1 : Hid (Below wy.heap.size wy (wy.alloc (.cells #[.int .i64 z0, .int .i64 z1] 41)).drew) := Lib.hid (bz.alloc (Nat.le_refl _) _).drew
            have G6 : Hid (Below wy.heap.size wy (wy.alloc (.cells #[.int .i64 zc] 3)).drew) := Lib.hid (bz.alloc (Nat.le_refl _) _).drew
            have G2 : Hid (Below wy.heap.size wy ((wy.alloc (.cells #[.int .i64 z0, .int .i64 z1] 41)).alloc (.cells #[.int .i64 zc] 3)).drew) := Lib.hid ((bz.alloc (Nat.le_refl _) _).alloc (by simp) _).drew
            have G4 : Hid (Below wy.heap.size wy ((wy.alloc (.cells #[.int .i64 zc] 3)).alloc (.cells #[.int .i64 z0, .int .i64 z1] 41)).drew) := Lib.hid ((bz.alloc (Nat.le_refl _) _).alloc (by simp) _).drew
            have LA1 : Hid (eltsAt pairE (wy.alloc (.cells #[.int .i64 z0, .int .i64 z1] 41)).drew (.slice (some ⟨wy.heap.size, 0, none⟩) 1 1) [(z0, z1)]) := Lib.hid ((one_elt pairE wy (z0, z1)).drew 1)
            have LB6 : Hid (eltsAt intE (wy.alloc (.cells #[.int .i64 zc] 3)).drew (.slice (some ⟨wy.heap.size, 0, none⟩) 1 1) [zc]) := Lib.hid ((one_elt intE wy zc).drew 1)
            have LA2 : Hid (eltsAt pairE ((wy.alloc (.cells #[.int .i64 z0, .int .i64 z1] 41)).alloc (.cells #[.int .i64 zc] 3)).drew (.slice (some ⟨wy.heap.size, 0, none⟩) 1 1) [(z0, z1)]) := Lib.hid (((one_elt pairE wy (z0, z1)).below ((Below.refl _ _).alloc (Nat.le_refl _) _) (Nat.le_refl _)).drew 1)
            have LB2 : Hid (eltsAt intE ((wy.alloc (.cells #[.int .i64 z0, .int .i64 z1] 41)).alloc (.cells #[.int .i64 zc] 3)).drew (.slice (some ⟨wy.heap.size + 1, 0, none⟩) 1 1) [zc]) := Lib.hid (by
              have := (one_elt intE (wy.alloc (.cells #[.int .i64 z0, .int .i64 z1] 41)) zc).drew 1
              rwa [World.size_alloc] at this)
            have LB4 : Hid (eltsAt intE ((wy.alloc (.cells #[.int .i64 zc] 3)).alloc (.cells #[.int .i64 z0, .int .i64 z1] 41)).drew (.slice (some ⟨wy.heap.size, 0, none⟩) 1 1) [zc]) := Lib.hid (((one_elt intE wy zc).below ((Below.refl _ _).alloc (Nat.le_refl _) _) (Nat.le_refl _)).drew 1)
            have LA4 : Hid (eltsAt pairE ((wy.alloc (.cells #[.int .i64 zc] 3)).alloc (.cells #[.int .i64 z0, .int .i64 z1] 41)).drew (.slice (some ⟨wy.heap.size + 1, 0, none⟩) 1 1) [(z0, z1)]) := Lib.hid (by
              have := (one_elt pairE (wy.alloc (.cells #[.int .i64 zc] 3)) (z0, z1)).drew 1
              rwa [World.size_alloc] at this)
            have HSZ : Hid (w0.heap.size ≤ wy.heap.size) := Lib.hid HJwy.out.size
            have OP1 := Lib.hid (HOwy.out.below G1.out)
            have OC1 := Lib.hid (HCwy.out.below G1.out)
            have SZ1 := Lib.hid (Nat.le_trans HSZ.out G1.out.size)
            have BJ1 := Lib.hid (HJwy.out.trans (G1.out.mono HSZ.out))
            have HX1 := Lib.hid (HA.out _ BJ1.out)
            have OP2 := Lib.hid (HOwy.out.below G2.out)
            have OC2 := Lib.hid (HCwy.out.below G2.out)
            have SZ2 := Lib.hid (Nat.le_trans HSZ.out G2.out.size)
            have BJ2 := Lib.hid (HJwy.out.trans (G2.out.mono HSZ.out))
            have HX2 := Lib.hid (HA.out _ BJ2.out)
            have OP4 := Lib.hid (HOwy.out.below G4.out)
            have OC4 := Lib.hid (HCwy.out.below G4.out)
            have SZ4 := Lib.hid (Nat.le_trans HSZ.out G4.out.size)
            have BJ4 := Lib.hid (HJwy.out.trans (G4.out.mono HSZ.out))
            have HX4 := Lib.hid (HA.out _ BJ4.out)
            have OP6 := Lib.hid (HOwy.out.below G6.out)
            have OC6 := Lib.hid (HCwy.out.below G6.out)
            have SZ6 := Lib.hid (Nat.le_trans HSZ.out G6.out.size)
            have BJ6 := Lib.hid (HJwy.out.trans (G6.out.mono HSZ.out))
            have HX6 := Lib.hid (HA.out _ BJ6.out)
            have HX0 := Lib.hid (HA.out wy HJwy.out)
            clear bz
            go_wp2_with fail
            go_region_held3 (fun w' => At5 w' K o ga gb k (.slice (some ⟨ga, 0, none⟩) N cp1) (.slice (some ⟨gb, 0, none⟩) N cp2) z0 z1 zc)
              (first | with_reducible exact HX0.out | with_reducible exact HX1.out | with_reducible exact HX6.out | with_reducible exact HX2.out | with_reducible exact HX4.out | with_reducible exact XA.out | with_reducible exact XB.out | with_reducible exact XC.out | exact HX0.out | exact trivial) (first
              | (refine step_append_elts intE rfl (.tmp 80) (.tmp 88) rfl w0.heap.size u7 _ C0 [zc] rfl rfl HQC.out HQB.out (someNone _ _ _) (by have := HCl.out; simp only [List.length_singleton]; omega) HQJ.out.size ?_
                 intro r3 w3 ho3 hg3 _
                 have HP3 : Hid (ownE pairE w3 w0.heap.size r2 (P0 ++ [(z0, z1)])) := Lib.hid (down_pairs HQP.out HQC.out hg3)
                 have HC3 : Hid (ownE intE w3 w0.heap.size r3 (C0 ++ [zc])) := Lib.hid ho3
                 have HJ3 : Hid (Below w0.heap.size w0 w3) := Lib.hid (dbelow_own2 HQJ.out hg3 HQC.out)
                 have XC := Lib.hid (HA.out w3 HJ3.out)
                 clear ho3 hg3)
              | (refine step_append_elts pairE rfl (.tmp 70) (.tmp 78) rfl w0.heap.size u6 _ P0 [(z0, z1)] rfl rfl HRP.out HRA.out (someNone _ _ _) (by have := HPl.out; simp only [List.length_singleton]; omega) HRJ.out.size ?_
                 intro r3 w3 ho3 hg3 _
                 have HC3 : Hid (ownE intE w3 w0.heap.size r2 (C0 ++ [zc])) := Lib.hid (down_ints HRP.out HRC.out hg3)
                 have HP3 : Hid (ownE pairE w3 w0.heap.size r3 (P0 ++ [(z0, z1)])) := Lib.hid ho3
                 have HJ3 : Hid (Below w0.heap.size w0 w3) := Lib.hid (dbelow_own2 HRJ.out hg3 HRP.out)
                 have XC := Lib.hid (HA.out w3 HJ3.out)
                 clear ho3 hg3)
              | (refine step_append_elts pairE rfl (.tmp 70) (.tmp 78) rfl w0.heap.size u6 (.slice (some ⟨wy.heap.size + 1, 0, none⟩) 1 1) P0 [(z0, z1)] rfl rfl (by with_reducible exact OP4.out) (by with_reducible exact LA4.out) (someNone _ _ _) (by have := HPl.out; simp only [List.length_singleton]; omega) (by with_reducible exact SZ4.out) ?_
                 intro r2 w2 ho2 hg2 _
                 have HQP0 : Hid (ownE pairE w2 w0.heap.size r2 (P0 ++ [(z0, z1)])) := Lib.hid ho2
                 have HQC0 := Lib.hid (down_ints OP4.out OC4.out hg2)
                 have HJ2 : Hid (Below w0.heap.size w0 w2) := Lib.hid (dbelow_own2 BJ4.out hg2 OP4.out)
                 have XA := Lib.hid (HA.out w2 HJ2.out)
                 have HQP := Lib.hid HQP0.out
                 have HQC := Lib.hid HQC0.out
                 have HQB := Lib.hid (dlit_kept LB4.out HOwy.out (by simp) (by simp <;> omega) hg2)
                 have HQJ := Lib.hid HJ2.out
                 clear ho2 hg2)
              | (refine step_append_elts pairE rfl (.tmp 70) (.tmp 78) rfl w0.heap.size u6 (.slice (some ⟨wy.heap.size, 0, none⟩) 1 1) P0 [(z0, z1)] rfl rfl (by with_reducible exact OP2.out) (by with_reducible exact LA2.out) (someNone _ _ _) (by have := HPl.out; simp only [List.length_singleton]; omega) (by with_reducible exact SZ2.out) ?_
                 intro r2 w2 ho2 hg2 _
                 have HQP0 : Hid (ownE pairE w2 w0.heap.size r2 (P0 ++ [(z0, z1)])) := Lib.hid ho2
                 have HQC0 := Lib.hid (down_ints OP2.out OC2.out hg2)
                 have HJ2 : Hid (Below w0.heap.size w0 w2) := Lib.hid (dbelow_own2 BJ2.out hg2 OP2.out)
                 have XA := Lib.hid (HA.out w2 HJ2.out)
                 have HQP := Lib.hid HQP0.out
                 have HQC := Lib.hid HQC0.out
                 have HQB := Lib.hid (dlit_kept LB2.out HOwy.out (by simp) (by simp <;> omega) hg2)
                 have HQJ := Lib.hid HJ2.out
                 clear ho2 hg2)
              | (refine step_append_elts pairE rfl (.tmp 70) (.tmp 78) rfl w0.heap.size u6 (.slice (some ⟨wy.heap.size, 0, none⟩) 1 1) P0 [(z0, z1)] rfl rfl (by with_reducible exact OP1.out) (by with_reducible exact LA1.out) (someNone _ _ _) (by have := HPl.out; simp only [List.length_singleton]; omega) (by with_reducible exact SZ1.out) ?_
                 intro r2 w2 ho2 hg2 _
                 have HQP0 : Hid (ownE pairE w2 w0.heap.size r2 (P0 ++ [(z0, z1)])) := Lib.hid ho2
                 have HQC0 := Lib.hid (down_ints OP1.out OC1.out hg2)
                 have HJ2 : Hid (Below w0.heap.size w0 w2) := Lib.hid (dbelow_own2 BJ1.out hg2 OP1.out)
                 have XA := Lib.hid (HA.out w2 HJ2.out)
                 have HQP := Lib.hid (HQP0.out.alloc (.cells #[.int .i64 zc] 3))
                 have HQC := Lib.hid (HQC0.out.alloc (.cells #[.int .i64 zc] 3))
                 have HQB : Hid (eltsAt intE (w2.alloc (.cells #[.int .i64 zc] 3)) (.slice (some ⟨w2.heap.size, 0, none⟩) 1 1) [zc]) := Lib.hid (one_elt intE w2 zc)
                 have HQJ := Lib.hid (HJ2.out.alloc HJ2.out.size (.cells #[.int .i64 zc] 3))
                 have XB := Lib.hid (HA.out _ HQJ.out)
                 clear ho2 hg2)
              | (refine step_append_elts intE rfl (.tmp 80) (.tmp 88) rfl w0.heap.size u7 (.slice (some ⟨wy.heap.size + 1, 0, none⟩) 1 1) C0 [zc] rfl rfl (by with_reducible exact OC2.out) (by with_reducible exact LB2.out) (someNone _ _ _) (by have := HCl.out; simp only [List.length_singleton]; omega) (by with_reducible exact SZ2.out) ?_
                 intro r2 w2 ho2 hg2 _
                 have HRC0 : Hid (ownE intE w2 w0.heap.size r2 (C0 ++ [zc])) := Lib.hid ho2
                 have HRP0 := Lib.hid (down_pairs OP2.out OC2.out hg2)
                 have HJ2 : Hid (Below w0.heap.size w0 w2) := Lib.hid (dbelow_own2 BJ2.out hg2 OC2.out)
                 have XA := Lib.hid (HA.out w2 HJ2.out)
                 have HRC := Lib.hid HRC0.out
                 have HRP := Lib.hid HRP0.out
                 have HRA := Lib.hid (dlit_kept LA2.out HCwy.out (by simp) (by simp <;> omega) hg2)
                 have HRJ := Lib.hid HJ2.out
                 clear ho2 hg2)
              | (refine step_append_elts intE rfl (.tmp 80) (.tmp 88) rfl w0.heap.size u7 (.slice (some ⟨wy.heap.size, 0, none⟩) 1 1) C0 [zc] rfl rfl (by with_reducible exact OC4.out) (by with_reducible exact LB4.out) (someNone _ _ _) (by have := HCl.out; simp only [List.length_singleton]; omega) (by with_reducible exact SZ4.out) ?_
                 intro r2 w2 ho2 hg2 _
                 have HRC0 : Hid (ownE intE w2 w0.heap.size r2 (C0 ++ [zc])) := Lib.hid ho2
                 have HRP0 := Lib.hid (down_pairs OP4.out OC4.out hg2)
                 have HJ2 : Hid (Below w0.heap.size w0 w2) := Lib.hid (dbelow_own2 BJ4.out hg2 OC4.out)
                 have XA := Lib.hid (HA.out w2 HJ2.out)
                 have HRC := Lib.hid HRC0.out
                 have HRP := Lib.hid HRP0.out
                 have HRA := Lib.hid (dlit_kept LA4.out HCwy.out (by simp) (by simp <;> omega) hg2)
                 have HRJ := Lib.hid HJ2.out
                 clear ho2 hg2)
              | (refine step_append_elts intE rfl (.tmp 80) (.tmp 88) rfl w0.heap.size u7 (.slice (some ⟨wy.heap.size, 0, none⟩) 1 1) C0 [zc] rfl rfl (by with_reducible exact OC6.out) (by with_reducible exact LB6.out) (someNone _ _ _) (by have := HCl.out; simp only [List.length_singleton]; omega) (by with_reducible exact SZ6.out) ?_
                 intro r2 w2 ho2 hg2 _
                 have HRC0 : Hid (ownE intE w2 w0.heap.size r2 (C0 ++ [zc])) := Lib.hid ho2
                 have HRP0 := Lib.hid (down_pairs OP6.out OC6.out hg2)
                 have HJ2 : Hid (Below w0.heap.size w0 w2) := Lib.hid (dbelow_own2 BJ6.out hg2 OC6.out)
                 have XA := Lib.hid (HA.out w2 HJ2.out)
                 have HRC := Lib.hid (HRC0.out.alloc (.cells #[.int .i64 z0, .int .i64 z1] 41))
                 have HRP := Lib.hid (HRP0.out.alloc (.cells #[.int .i64 z0, .int .i64 z1] 41))
                 have HRA : Hid (eltsAt pairE (w2.alloc (.cells #[.int .i64 z0, .int .i64 z1] 41)) (.slice (some ⟨w2.heap.size, 0, none⟩) 1 1) [(z0, z1)]) := Lib.hid (one_elt pairE w2 (z0, z1))
                 have HRJ := Lib.hid (HJ2.out.alloc HJ2.out.size (.cells #[.int .i64 z0, .int .i64 z1] 41))
                 have XB := Lib.hid (HA.out _ HRJ.out)
                 clear ho2 hg2))
            all_goals clear OP1 OP2 OP4 OP6 OC1 OC2 OC4 OC6 SZ1 SZ2 SZ4 SZ6 BJ1 BJ2 BJ4 BJ6 LA1 LA2 LA4 LB2 LB4 LB6 G1 G2 G4 G6 HX0 HX1 HX2 HX4 HX6
            all_goals go_wp2
            all_goals go_roundw
            all_goals try (case measure => simp [intOf] <;> omega)
            all_goals exact ⟨k + 1, O ++ [((z0, z1), zc)], true, by simp, rfl, by rw [keys_snoc, ← HPC.out.1]; exact HP3.out, by rw [vals_snoc, ← HPC.out.2]; exact HC3.out, HJ3.out, Eq.mp (congrArg (fun y : (Int × Int) × Int => SInv L (p, q) n (k + 1) (O ++ [y]) true) HZ.out) (HIN.out.s4 HKLL.out (fun e => HPQ.out ((congrArg Prod.fst HZ.out).symm.trans e)))⟩
        | false =>
          have key : ∀ n os, Below w0.heap.size w0 (grow (wr.drewN n) os) := fun n os => HJwr.out.trans ((dgrown_below wr n os).mono HJwr.out.size)
          have m0 : ∀ n os, (grow (wr.drewN n) os).cell? ⟨K, o, none⟩ = some (.slice (some ⟨ga, 0, none⟩) N cp1) := fun n os => (HA.out _ (key n os)).1
          have m1 : ∀ n os, (grow (wr.drewN n) os).cell? ⟨ga, k * 2, none⟩ = some (.int .i64 z0) := fun n os => (HA.out _ (key n os)).2.2.1
          have m2 : ∀ n os, (grow (wr.drewN n) os).cell? ⟨ga, k * 2 + 1, none⟩ = some (.int .i64 z1) := fun n os => (HA.out _ (key n os)).2.2.2.1
          have m3 : ∀ n os, (grow (wr.drewN n) os).cell? ⟨bx, 0, none⟩ = some (.int .i64 p) := fun n os => (HBX.out _ (key n os)).1
          have m4 : ∀ n os, (grow (wr.drewN n) os).cell? ⟨bx, 1, none⟩ = some (.int .i64 q) := fun n os => (HBX.out _ (key n os)).2
          have cG : ∀ n os, Calls Try.prog 44 #[.agg #[.int .i64 z0, .int .i64 z1], .agg #[.int .i64 p, .int .i64 q]] (grow (wr.drewN n) os) fun e w'' => e = .returned (.bool (decide (pb (z0, z1) (p, q)))) ∧ ∃ p : GrownBy, w'' = grow (wr.drewN p.n) p.os := fun n os => Calls.grown_of (dbefore_any z0 z1 p q _)
          obtain ⟨s0, s1, _, _, _⟩ := HA.out wr HJwr.out
          clear key
          by_cases tb : pb (z0, z1) (p, q)
          · have etb : decide (pb (z0, z1) (p, q)) = true := decide_eq_true tb
            rw [etb] at cG
            have hpq : ¬ (z0, z1) = (p, q) := fun e => pb_irrefl (p, q) (by rw [e] at tb; exact tb)
            have hne := pair_neq_yes hpq
            have HTB := Lib.hid tb
            clear tb etb hpq
            go_wp2_with fail
            go_quiet_grown (first | (go_at_call 44; refine cG _ _))
            have HJwq : Hid (Below w0.heap.size w0 (grow (wr.drewN nq) osq)) := Lib.hid (HJwr.out.trans ((dgrown_below wr _ _).mono HJwr.out.size))
            have HOwq : Hid (ownE pairE (grow (wr.drewN nq) osq) w0.heap.size u6 P0) := Lib.hid (HOwr.out.below (dgrown_below wr _ _))
            have HCwq : Hid (ownE intE (grow (wr.drewN nq) osq) w0.heap.size u7 C0) := Lib.hid (HCwr.out.below (dgrown_below wr _ _))
            clear m0 m1 m2 m3 m4 cG s0 s1
            generalize grow (wr.drewN nq) osq = wq at *
            obtain ⟨kb0, kb1, xb0, xb1, yb0⟩ := HA.out wq HJwq.out
            obtain ⟨qb0, qb1⟩ := HBX.out wq HJwq.out
            go_wp2_with fail
            go_quiet (fail)
            have HJwy : Hid (Below w0.heap.size w0 (wq.drewN nq)) := Lib.hid (below_drewN' HJwq.out _)
            have HOwy : Hid (ownE pairE (wq.drewN nq) w0.heap.size u6 P0) := Lib.hid (HOwq.out.drewN _)
            have HCwy : Hid (ownE intE (wq.drewN nq) w0.heap.size u7 C0) := Lib.hid (HCwq.out.drewN _)
            clear kb0 kb1 xb0 xb1 yb0 qb0 qb1
            generalize wq.drewN nq = wy at *
            clear hne
            have bz := Below.refl wy.heap.size wy
            have G1 : Hid (Below wy.heap.size wy (wy.alloc (.cells #[.int .i64 z0, .int .i64 z1] 41)).drew) := Lib.hid (bz.alloc (Nat.le_refl _) _).drew
            have G6 : Hid (Below wy.heap.size wy (wy.alloc (.cells #[.int .i64 zc] 3)).drew) := Lib.hid (bz.alloc (Nat.le_refl _) _).drew
            have G2 : Hid (Below wy.heap.size wy ((wy.alloc (.cells #[.int .i64 z0, .int .i64 z1] 41)).alloc (.cells #[.int .i64 zc] 3)).drew) := Lib.hid ((bz.alloc (Nat.le_refl _) _).alloc (by simp) _).drew
            have G4 : Hid (Below wy.heap.size wy ((wy.alloc (.cells #[.int .i64 zc] 3)).alloc (.cells #[.int .i64 z0, .int .i64 z1] 41)).drew) := Lib.hid ((bz.alloc (Nat.le_refl _) _).alloc (by simp) _).drew
            have LA1 : Hid (eltsAt pairE (wy.alloc (.cells #[.int .i64 z0, .int .i64 z1] 41)).drew (.slice (some ⟨wy.heap.size, 0, none⟩) 1 1) [(z0, z1)]) := Lib.hid ((one_elt pairE wy (z0, z1)).drew 1)
            have LB6 : Hid (eltsAt intE (wy.alloc (.cells #[.int .i64 zc] 3)).drew (.slice (some ⟨wy.heap.size, 0, none⟩) 1 1) [zc]) := Lib.hid ((one_elt intE wy zc).drew 1)
            have LA2 : Hid (eltsAt pairE ((wy.alloc (.cells #[.int .i64 z0, .int .i64 z1] 41)).alloc (.cells #[.int .i64 zc] 3)).drew (.slice (some ⟨wy.heap.size, 0, none⟩) 1 1) [(z0, z1)]) := Lib.hid (((one_elt pairE wy (z0, z1)).below ((Below.refl _ _).alloc (Nat.le_refl _) _) (Nat.le_refl _)).drew 1)
            have LB2 : Hid (eltsAt intE ((wy.alloc (.cells #[.int .i64 z0, .int .i64 z1] 41)).alloc (.cells #[.int .i64 zc] 3)).drew (.slice (some ⟨wy.heap.size + 1, 0, none⟩) 1 1) [zc]) := Lib.hid (by
              have := (one_elt intE (wy.alloc (.cells #[.int .i64 z0, .int .i64 z1] 41)) zc).drew 1
              rwa [World.size_alloc] at this)
            have LB4 : Hid (eltsAt intE ((wy.alloc (.cells #[.int .i64 zc] 3)).alloc (.cells #[.int .i64 z0, .int .i64 z1] 41)).drew (.slice (some ⟨wy.heap.size, 0, none⟩) 1 1) [zc]) := Lib.hid (((one_elt intE wy zc).below ((Below.refl _ _).alloc (Nat.le_refl _) _) (Nat.le_refl _)).drew 1)
            have LA4 : Hid (eltsAt pairE ((wy.alloc (.cells #[.int .i64 zc] 3)).alloc (.cells #[.int .i64 z0, .int .i64 z1] 41)).drew (.slice (some ⟨wy.heap.size + 1, 0, none⟩) 1 1) [(z0, z1)]) := Lib.hid (by
              have := (one_elt pairE (wy.alloc (.cells #[.int .i64 zc] 3)) (z0, z1)).drew 1
              rwa [World.size_alloc] at this)
            have HSZ : Hid (w0.heap.size ≤ wy.heap.size) := Lib.hid HJwy.out.size
            have OP1 := Lib.hid (HOwy.out.below G1.out)
            have OC1 := Lib.hid (HCwy.out.below G1.out)
            have SZ1 := Lib.hid (Nat.le_trans HSZ.out G1.out.size)
            have BJ1 := Lib.hid (HJwy.out.trans (G1.out.mono HSZ.out))
            have HX1 := Lib.hid (HA.out _ BJ1.out)
            have OP2 := Lib.hid (HOwy.out.below G2.out)
            have OC2 := Lib.hid (HCwy.out.below G2.out)
            have SZ2 := Lib.hid (Nat.le_trans HSZ.out G2.out.size)
            have BJ2 := Lib.hid (HJwy.out.trans (G2.out.mono HSZ.out))
            have HX2 := Lib.hid (HA.out _ BJ2.out)
            have OP4 := Lib.hid (HOwy.out.below G4.out)
            have OC4 := Lib.hid (HCwy.out.below G4.out)
            have SZ4 := Lib.hid (Nat.le_trans HSZ.out G4.out.size)
            have BJ4 := Lib.hid (HJwy.out.trans (G4.out.mono HSZ.out))
            have HX4 := Lib.hid (HA.out _ BJ4.out)
            have OP6 := Lib.hid (HOwy.out.below G6.out)
            have OC6 := Lib.hid (HCwy.out.below G6.out)
            have SZ6 := Lib.hid (Nat.le_trans HSZ.out G6.out.size)
            have BJ6 := Lib.hid (HJwy.out.trans (G6.out.mono HSZ.out))
            have HX6 := Lib.hid (HA.out _ BJ6.out)
            have HX0 := Lib.hid (HA.out wy HJwy.out)
            clear bz
            go_wp2_with fail
            go_region_held3 (fun w' => At5 w' K o ga gb k (.slice (some ⟨ga, 0, none⟩) N cp1) (.slice (some ⟨gb, 0, none⟩) N cp2) z0 z1 zc)
              (first | with_reducible exact HX0.out | with_reducible exact HX1.out | with_reducible exact HX6.out | with_reducible exact HX2.out | with_reducible exact HX4.out | with_reducible exact XA.out | with_reducible exact XB.out | with_reducible exact XC.out | exact HX0.out | exact trivial) (first
              | (refine step_append_elts intE rfl (.tmp 80) (.tmp 88) rfl w0.heap.size u7 _ C0 [zc] rfl rfl HQC.out HQB.out (someNone _ _ _) (by have := HCl.out; simp only [List.length_singleton]; omega) HQJ.out.size ?_
                 intro r3 w3 ho3 hg3 _
                 have HP3 : Hid (ownE pairE w3 w0.heap.size r2 (P0 ++ [(z0, z1)])) := Lib.hid (down_pairs HQP.out HQC.out hg3)
                 have HC3 : Hid (ownE intE w3 w0.heap.size r3 (C0 ++ [zc])) := Lib.hid ho3
                 have HJ3 : Hid (Below w0.heap.size w0 w3) := Lib.hid (dbelow_own2 HQJ.out hg3 HQC.out)
                 have XC := Lib.hid (HA.out w3 HJ3.out)
                 clear ho3 hg3)
              | (refine step_append_elts pairE rfl (.tmp 70) (.tmp 78) rfl w0.heap.size u6 _ P0 [(z0, z1)] rfl rfl HRP.out HRA.out (someNone _ _ _) (by have := HPl.out; simp only [List.length_singleton]; omega) HRJ.out.size ?_
                 intro r3 w3 ho3 hg3 _
                 have HC3 : Hid (ownE intE w3 w0.heap.size r2 (C0 ++ [zc])) := Lib.hid (down_ints HRP.out HRC.out hg3)
                 have HP3 : Hid (ownE pairE w3 w0.heap.size r3 (P0 ++ [(z0, z1)])) := Lib.hid ho3
                 have HJ3 : Hid (Below w0.heap.size w0 w3) := Lib.hid (dbelow_own2 HRJ.out hg3 HRP.out)
                 have XC := Lib.hid (HA.out w3 HJ3.out)
                 clear ho3 hg3)
              | (refine step_append_elts pairE rfl (.tmp 70) (.tmp 78) rfl w0.heap.size u6 (.slice (some ⟨wy.heap.size + 1, 0, none⟩) 1 1) P0 [(z0, z1)] rfl rfl (by with_reducible exact OP4.out) (by with_reducible exact LA4.out) (someNone _ _ _) (by have := HPl.out; simp only [List.length_singleton]; omega) (by with_reducible exact SZ4.out) ?_
                 intro r2 w2 ho2 hg2 _
                 have HQP0 : Hid (ownE pairE w2 w0.heap.size r2 (P0 ++ [(z0, z1)])) := Lib.hid ho2
                 have HQC0 := Lib.hid (down_ints OP4.out OC4.out hg2)
                 have HJ2 : Hid (Below w0.heap.size w0 w2) := Lib.hid (dbelow_own2 BJ4.out hg2 OP4.out)
                 have XA := Lib.hid (HA.out w2 HJ2.out)
                 have HQP := Lib.hid HQP0.out
                 have HQC := Lib.hid HQC0.out
                 have HQB := Lib.hid (dlit_kept LB4.out HOwy.out (by simp) (by simp <;> omega) hg2)
                 have HQJ := Lib.hid HJ2.out
                 clear ho2 hg2)
              | (refine step_append_elts pairE rfl (.tmp 70) (.tmp 78) rfl w0.heap.size u6 (.slice (some ⟨wy.heap.size, 0, none⟩) 1 1) P0 [(z0, z1)] rfl rfl (by with_reducible exact OP2.out) (by with_reducible exact LA2.out) (someNone _ _ _) (by have := HPl.out; simp only [List.length_singleton]; omega) (by with_reducible exact SZ2.out) ?_
                 intro r2 w2 ho2 hg2 _
                 have HQP0 : Hid (ownE pairE w2 w0.heap.size r2 (P0 ++ [(z0, z1)])) := Lib.hid ho2
                 have HQC0 := Lib.hid (down_ints OP2.out OC2.out hg2)
                 have HJ2 : Hid (Below w0.heap.size w0 w2) := Lib.hid (dbelow_own2 BJ2.out hg2 OP2.out)
                 have XA := Lib.hid (HA.out w2 HJ2.out)
                 have HQP := Lib.hid HQP0.out
                 have HQC := Lib.hid HQC0.out
                 have HQB := Lib.hid (dlit_kept LB2.out HOwy.out (by simp) (by simp <;> omega) hg2)
                 have HQJ := Lib.hid HJ2.out
                 clear ho2 hg2)
              | (refine step_append_elts pairE rfl (.tmp 70) (.tmp 78) rfl w0.heap.size u6 (.slice (some ⟨wy.heap.size, 0, none⟩) 1 1) P0 [(z0, z1)] rfl rfl (by with_reducible exact OP1.out) (by with_reducible exact LA1.out) (someNone _ _ _) (by have := HPl.out; simp only [List.length_singleton]; omega) (by with_reducible exact SZ1.out) ?_
                 intro r2 w2 ho2 hg2 _
                 have HQP0 : Hid (ownE pairE w2 w0.heap.size r2 (P0 ++ [(z0, z1)])) := Lib.hid ho2
                 have HQC0 := Lib.hid (down_ints OP1.out OC1.out hg2)
                 have HJ2 : Hid (Below w0.heap.size w0 w2) := Lib.hid (dbelow_own2 BJ1.out hg2 OP1.out)
                 have XA := Lib.hid (HA.out w2 HJ2.out)
                 have HQP := Lib.hid (HQP0.out.alloc (.cells #[.int .i64 zc] 3))
                 have HQC := Lib.hid (HQC0.out.alloc (.cells #[.int .i64 zc] 3))
                 have HQB : Hid (eltsAt intE (w2.alloc (.cells #[.int .i64 zc] 3)) (.slice (some ⟨w2.heap.size, 0, none⟩) 1 1) [zc]) := Lib.hid (one_elt intE w2 zc)
                 have HQJ := Lib.hid (HJ2.out.alloc HJ2.out.size (.cells #[.int .i64 zc] 3))
                 have XB := Lib.hid (HA.out _ HQJ.out)
                 clear ho2 hg2)
              | (refine step_append_elts intE rfl (.tmp 80) (.tmp 88) rfl w0.heap.size u7 (.slice (some ⟨wy.heap.size + 1, 0, none⟩) 1 1) C0 [zc] rfl rfl (by with_reducible exact OC2.out) (by with_reducible exact LB2.out) (someNone _ _ _) (by have := HCl.out; simp only [List.length_singleton]; omega) (by with_reducible exact SZ2.out) ?_
                 intro r2 w2 ho2 hg2 _
                 have HRC0 : Hid (ownE intE w2 w0.heap.size r2 (C0 ++ [zc])) := Lib.hid ho2
                 have HRP0 := Lib.hid (down_pairs OP2.out OC2.out hg2)
                 have HJ2 : Hid (Below w0.heap.size w0 w2) := Lib.hid (dbelow_own2 BJ2.out hg2 OC2.out)
                 have XA := Lib.hid (HA.out w2 HJ2.out)
                 have HRC := Lib.hid HRC0.out
                 have HRP := Lib.hid HRP0.out
                 have HRA := Lib.hid (dlit_kept LA2.out HCwy.out (by simp) (by simp <;> omega) hg2)
                 have HRJ := Lib.hid HJ2.out
                 clear ho2 hg2)
              | (refine step_append_elts intE rfl (.tmp 80) (.tmp 88) rfl w0.heap.size u7 (.slice (some ⟨wy.heap.size, 0, none⟩) 1 1) C0 [zc] rfl rfl (by with_reducible exact OC4.out) (by with_reducible exact LB4.out) (someNone _ _ _) (by have := HCl.out; simp only [List.length_singleton]; omega) (by with_reducible exact SZ4.out) ?_
                 intro r2 w2 ho2 hg2 _
                 have HRC0 : Hid (ownE intE w2 w0.heap.size r2 (C0 ++ [zc])) := Lib.hid ho2
                 have HRP0 := Lib.hid (down_pairs OP4.out OC4.out hg2)
                 have HJ2 : Hid (Below w0.heap.size w0 w2) := Lib.hid (dbelow_own2 BJ4.out hg2 OC4.out)
                 have XA := Lib.hid (HA.out w2 HJ2.out)
                 have HRC := Lib.hid HRC0.out
                 have HRP := Lib.hid HRP0.out
                 have HRA := Lib.hid (dlit_kept LA4.out HCwy.out (by simp) (by simp <;> omega) hg2)
                 have HRJ := Lib.hid HJ2.out
                 clear ho2 hg2)
              | (refine step_append_elts intE rfl (.tmp 80) (.tmp 88) rfl w0.heap.size u7 (.slice (some ⟨wy.heap.size, 0, none⟩) 1 1) C0 [zc] rfl rfl (by with_reducible exact OC6.out) (by with_reducible exact LB6.out) (someNone _ _ _) (by have := HCl.out; simp only [List.length_singleton]; omega) (by with_reducible exact SZ6.out) ?_
                 intro r2 w2 ho2 hg2 _
                 have HRC0 : Hid (ownE intE w2 w0.heap.size r2 (C0 ++ [zc])) := Lib.hid ho2
                 have HRP0 := Lib.hid (down_pairs OP6.out OC6.out hg2)
                 have HJ2 : Hid (Below w0.heap.size w0 w2) := Lib.hid (dbelow_own2 BJ6.out hg2 OC6.out)
                 have XA := Lib.hid (HA.out w2 HJ2.out)
                 have HRC := Lib.hid (HRC0.out.alloc (.cells #[.int .i64 z0, .int .i64 z1] 41))
                 have HRP := Lib.hid (HRP0.out.alloc (.cells #[.int .i64 z0, .int .i64 z1] 41))
                 have HRA : Hid (eltsAt pairE (w2.alloc (.cells #[.int .i64 z0, .int .i64 z1] 41)) (.slice (some ⟨w2.heap.size, 0, none⟩) 1 1) [(z0, z1)]) := Lib.hid (one_elt pairE w2 (z0, z1))
                 have HRJ := Lib.hid (HJ2.out.alloc HJ2.out.size (.cells #[.int .i64 z0, .int .i64 z1] 41))
                 have XB := Lib.hid (HA.out _ HRJ.out)
                 clear ho2 hg2))
            all_goals clear OP1 OP2 OP4 OP6 OC1 OC2 OC4 OC6 SZ1 SZ2 SZ4 SZ6 BJ1 BJ2 BJ4 BJ6 LA1 LA2 LA4 LB2 LB4 LB6 G1 G2 G4 G6 HX0 HX1 HX2 HX4 HX6
            all_goals go_wp2
            all_goals go_roundw
            all_goals try (case measure => simp [intOf] <;> omega)
            all_goals exact ⟨k + 1, O ++ [((z0, z1), zc)], false, by simp, rfl, by rw [keys_snoc, ← HPC.out.1]; exact HP3.out, by rw [vals_snoc, ← HPC.out.2]; exact HC3.out, HJ3.out, Eq.mp (congrArg (fun y : (Int × Int) × Int => SInv L (p, q) n (k + 1) (O ++ [y]) false) HZ.out) (HIN.out.s5 HKLL.out (Eq.mpr (congrArg (fun y : (Int × Int) × Int => pb y.1 (p, q)) HZ.out) HTB.out))⟩
          · have etb : decide (pb (z0, z1) (p, q)) = false := decide_eq_false tb
            rw [etb] at cG
            have HTB := Lib.hid tb
            clear tb etb
            go_wp2_with fail
            go_quiet_grown (first | (go_at_call 44; refine cG _ _))
            have HJwq : Hid (Below w0.heap.size w0 (grow (wr.drewN nq) osq)) := Lib.hid (HJwr.out.trans ((dgrown_below wr _ _).mono HJwr.out.size))
            have HOwq : Hid (ownE pairE (grow (wr.drewN nq) osq) w0.heap.size u6 P0) := Lib.hid (HOwr.out.below (dgrown_below wr _ _))
            have HCwq : Hid (ownE intE (grow (wr.drewN nq) osq) w0.heap.size u7 C0) := Lib.hid (HCwr.out.below (dgrown_below wr _ _))
            clear m0 m1 m2 m3 m4 cG s0 s1
            generalize grow (wr.drewN nq) osq = wq at *
            obtain ⟨kb0, kb1, xb0, xb1, yb0⟩ := HA.out wq HJwq.out
            obtain ⟨qb0, qb1⟩ := HBX.out wq HJwq.out
            have HEa : Hid (eltsAt pairE (wq.alloc (.cells #[.int .i64 p, .int .i64 q] 41)) (.slice (some ⟨wq.heap.size, 0, none⟩) 1 1) [(p, q)]) := Lib.hid (one_elt pairE wq (p, q))
            have HOa : Hid (ownE pairE (wq.alloc (.cells #[.int .i64 p, .int .i64 q] 41)) w0.heap.size u6 P0) := Lib.hid (HOwq.out.alloc _)
            have HCa : Hid (ownE intE (wq.alloc (.cells #[.int .i64 p, .int .i64 q] 41)) w0.heap.size u7 C0) := Lib.hid (HCwq.out.alloc _)
            have HJa : Hid (Below w0.heap.size w0 (wq.alloc (.cells #[.int .i64 p, .int .i64 q] 41))) := Lib.hid (HJwq.out.alloc HJwq.out.size _)
            go_wp2_with (first
              | (at_builtin
                 refine wpList_append_elts intE rfl (.tmp 48) (.tmp 50) rfl w0.heap.size u7 _ C0 [n] rfl rfl HCb.out HEb.out (someNone _ _ _) (by have := HCl.out; simp only [List.length_singleton]; omega) HJb.out.size ?_
                 intro r8 w8 ho8 hg8 _
                 have HOw8 : Hid (ownE pairE w8 w0.heap.size r7 (P0 ++ [(p, q)])) := Lib.hid (down_pairs HOb.out HCb.out hg8)
                 have HCw8 : Hid (ownE intE w8 w0.heap.size r8 (C0 ++ [n])) := Lib.hid ho8
                 have HJw8 : Hid (Below w0.heap.size w0 w8) := Lib.hid (dbelow_own2 HJb.out hg8 HCb.out)
                 clear ho8 hg8)
              | (at_builtin
                 refine wpList_append_elts pairE rfl (.tmp 44) (.tmp 46) rfl w0.heap.size u6 _ P0 [(p, q)] rfl rfl HOa.out HEa.out (someNone _ _ _) (by have := HPl.out; simp only [List.length_singleton]; omega) HJa.out.size ?_
                 intro r7 w7 ho7 hg7 _
                 have HOb : Hid (ownE pairE (w7.alloc (.cells #[.int .i64 n] 3)) w0.heap.size r7 (P0 ++ [(p, q)])) := Lib.hid (ho7.alloc _)
                 have HCb : Hid (ownE intE (w7.alloc (.cells #[.int .i64 n] 3)) w0.heap.size u7 C0) := Lib.hid ((down_ints HOa.out HCa.out hg7).alloc _)
                 have HEb : Hid (eltsAt intE (w7.alloc (.cells #[.int .i64 n] 3)) (.slice (some ⟨w7.heap.size, 0, none⟩) 1 1) [n]) := Lib.hid (one_elt intE w7 n)
                 have HJ7 : Hid (Below w0.heap.size w0 w7) := Lib.hid (dbelow_own2 HJa.out hg7 HOa.out)
                 have HJb : Hid (Below w0.heap.size w0 (w7.alloc (.cells #[.int .i64 n] 3))) := Lib.hid (HJ7.out.alloc HJ7.out.size _)
                 clear ho7 hg7))
            clear HEa HOa HCa HJa HOb HCb HEb HJ7 HJb
            clear kb0 kb1 xb0 xb1 yb0 qb0 qb1
            obtain ⟨kc0, kc1, xc0, xc1, yc0⟩ := HA.out w8 HJw8.out
            obtain ⟨qc0, qc1⟩ := HBX.out w8 HJw8.out
            by_cases hpq : (z0, z1) = (p, q)
            · have e0 : z0 = p := congrArg Prod.fst hpq
              have e1 : z1 = q := congrArg Prod.snd hpq
              have HPQ := Lib.hid hpq
              subst e0
              subst e1
              have hne := pair_neq_no z0 z1
              clear hpq
              go_quiet (fail)
              have HJwy : Hid (Below w0.heap.size w0 (w8.drewN nq)) := Lib.hid (below_drewN' HJw8.out _)
              have HOwy : Hid (ownE pairE (w8.drewN nq) w0.heap.size r7 (P0 ++ [(z0, z1)])) := Lib.hid (HOw8.out.drewN _)
              have HCwy : Hid (ownE intE (w8.drewN nq) w0.heap.size r8 (C0 ++ [n])) := Lib.hid (HCw8.out.drewN _)
              clear kc0 kc1 xc0 xc1 yc0 qc0 qc1
              generalize w8.drewN nq = wy at *
              go_wp2
              go_roundw
              case measure => simp [intOf] <;> omega
              case rel => exact ⟨k + 1, O ++ [((z0, z1), n)], true, by simp, rfl, by rw [keys_snoc, ← HPC.out.1]; exact HOwy.out, by rw [vals_snoc, ← HPC.out.2]; exact HCwy.out, HJwy.out, HIN.out.s6 HKLL.out (Eq.mpr (congrArg (fun y : (Int × Int) × Int => ¬ pb y.1 (z0, z1)) HZ.out) HTB.out) (congrArg Prod.fst HZ.out)⟩
            · have hne := pair_neq_yes hpq
              have HPQ := Lib.hid hpq
              clear hpq
              go_quiet (fail)
              have HJwy : Hid (Below w0.heap.size w0 (w8.drewN nq)) := Lib.hid (below_drewN' HJw8.out _)
              have HOwy : Hid (ownE pairE (w8.drewN nq) w0.heap.size r7 (P0 ++ [(p, q)])) := Lib.hid (HOw8.out.drewN _)
              have HCwy : Hid (ownE intE (w8.drewN nq) w0.heap.size r8 (C0 ++ [n])) := Lib.hid (HCw8.out.drewN _)
              clear kc0 kc1 xc0 xc1 yc0 qc0 qc1
              generalize w8.drewN nq = wy at *
              clear hne
              have bz := Below.refl wy.heap.size wy
              have G1 : Hid (Below wy.heap.size wy (wy.alloc (.cells #[.int .i64 z0, .int .i64 z1] 41)).drew) := Lib.hid (bz.alloc (Nat.le_refl _) _).drew
              have G6 : Hid (Below wy.heap.size wy (wy.alloc (.cells #[.int .i64 zc] 3)).drew) := Lib.hid (bz.alloc (Nat.le_refl _) _).drew
              have G2 : Hid (Below wy.heap.size wy ((wy.alloc (.cells #[.int .i64 z0, .int .i64 z1] 41)).alloc (.cells #[.int .i64 zc] 3)).drew) := Lib.hid ((bz.alloc (Nat.le_refl _) _).alloc (by simp) _).drew
              have G4 : Hid (Below wy.heap.size wy ((wy.alloc (.cells #[.int .i64 zc] 3)).alloc (.cells #[.int .i64 z0, .int .i64 z1] 41)).drew) := Lib.hid ((bz.alloc (Nat.le_refl _) _).alloc (by simp) _).drew
              have LA1 : Hid (eltsAt pairE (wy.alloc (.cells #[.int .i64 z0, .int .i64 z1] 41)).drew (.slice (some ⟨wy.heap.size, 0, none⟩) 1 1) [(z0, z1)]) := Lib.hid ((one_elt pairE wy (z0, z1)).drew 1)
              have LB6 : Hid (eltsAt intE (wy.alloc (.cells #[.int .i64 zc] 3)).drew (.slice (some ⟨wy.heap.size, 0, none⟩) 1 1) [zc]) := Lib.hid ((one_elt intE wy zc).drew 1)
              have LA2 : Hid (eltsAt pairE ((wy.alloc (.cells #[.int .i64 z0, .int .i64 z1] 41)).alloc (.cells #[.int .i64 zc] 3)).drew (.slice (some ⟨wy.heap.size, 0, none⟩) 1 1) [(z0, z1)]) := Lib.hid (((one_elt pairE wy (z0, z1)).below ((Below.refl _ _).alloc (Nat.le_refl _) _) (Nat.le_refl _)).drew 1)
              have LB2 : Hid (eltsAt intE ((wy.alloc (.cells #[.int .i64 z0, .int .i64 z1] 41)).alloc (.cells #[.int .i64 zc] 3)).drew (.slice (some ⟨wy.heap.size + 1, 0, none⟩) 1 1) [zc]) := Lib.hid (by
                have := (one_elt intE (wy.alloc (.cells #[.int .i64 z0, .int .i64 z1] 41)) zc).drew 1
                rwa [World.size_alloc] at this)
              have LB4 : Hid (eltsAt intE ((wy.alloc (.cells #[.int .i64 zc] 3)).alloc (.cells #[.int .i64 z0, .int .i64 z1] 41)).drew (.slice (some ⟨wy.heap.size, 0, none⟩) 1 1) [zc]) := Lib.hid (((one_elt intE wy zc).below ((Below.refl _ _).alloc (Nat.le_refl _) _) (Nat.le_refl _)).drew 1)
              have LA4 : Hid (eltsAt pairE ((wy.alloc (.cells #[.int .i64 zc] 3)).alloc (.cells #[.int .i64 z0, .int .i64 z1] 41)).drew (.slice (some ⟨wy.heap.size + 1, 0, none⟩) 1 1) [(z0, z1)]) := Lib.hid (by
                have := (one_elt pairE (wy.alloc (.cells #[.int .i64 zc] 3)) (z0, z1)).drew 1
                rwa [World.size_alloc] at this)
              have HSZ : Hid (w0.heap.size ≤ wy.heap.size) := Lib.hid HJwy.out.size
              have OP1 := Lib.hid (HOwy.out.below G1.out)
              have OC1 := Lib.hid (HCwy.out.below G1.out)
              have SZ1 := Lib.hid (Nat.le_trans HSZ.out G1.out.size)
              have BJ1 := Lib.hid (HJwy.out.trans (G1.out.mono HSZ.out))
              have HX1 := Lib.hid (HA.out _ BJ1.out)
              have OP2 := Lib.hid (HOwy.out.below G2.out)
              have OC2 := Lib.hid (HCwy.out.below G2.out)
              have SZ2 := Lib.hid (Nat.le_trans HSZ.out G2.out.size)
              have BJ2 := Lib.hid (HJwy.out.trans (G2.out.mono HSZ.out))
              have HX2 := Lib.hid (HA.out _ BJ2.out)
              have OP4 := Lib.hid (HOwy.out.below G4.out)
              have OC4 := Lib.hid (HCwy.out.below G4.out)
              have SZ4 := Lib.hid (Nat.le_trans HSZ.out G4.out.size)
              have BJ4 := Lib.hid (HJwy.out.trans (G4.out.mono HSZ.out))
              have HX4 := Lib.hid (HA.out _ BJ4.out)
              have OP6 := Lib.hid (HOwy.out.below G6.out)
              have OC6 := Lib.hid (HCwy.out.below G6.out)
              have SZ6 := Lib.hid (Nat.le_trans HSZ.out G6.out.size)
              have BJ6 := Lib.hid (HJwy.out.trans (G6.out.mono HSZ.out))
              have HX6 := Lib.hid (HA.out _ BJ6.out)
              have HX0 := Lib.hid (HA.out wy HJwy.out)
              clear bz
              go_wp2_with fail
              go_region_held3 (fun w' => At5 w' K o ga gb k (.slice (some ⟨ga, 0, none⟩) N cp1) (.slice (some ⟨gb, 0, none⟩) N cp2) z0 z1 zc)
                (first | with_reducible exact HX0.out | with_reducible exact HX1.out | with_reducible exact HX6.out | with_reducible exact HX2.out | with_reducible exact HX4.out | with_reducible exact XA.out | with_reducible exact XB.out | with_reducible exact XC.out | exact HX0.out | exact trivial) (first
                | (refine step_append_elts intE rfl (.tmp 80) (.tmp 88) rfl w0.heap.size r8 _ (C0 ++ [n]) [zc] rfl rfl HQC.out HQB.out (someNone _ _ _) (by have := HCl.out; simp only [List.length_singleton, List.length_append]; omega) HQJ.out.size ?_
                   intro r3 w3 ho3 hg3 _
                   have HP3 : Hid (ownE pairE w3 w0.heap.size r2 ((P0 ++ [(p, q)]) ++ [(z0, z1)])) := Lib.hid (down_pairs HQP.out HQC.out hg3)
                   have HC3 : Hid (ownE intE w3 w0.heap.size r3 ((C0 ++ [n]) ++ [zc])) := Lib.hid ho3
                   have HJ3 : Hid (Below w0.heap.size w0 w3) := Lib.hid (dbelow_own2 HQJ.out hg3 HQC.out)
                   have XC := Lib.hid (HA.out w3 HJ3.out)
                   clear ho3 hg3)
                | (refine step_append_elts pairE rfl (.tmp 70) (.tmp 78) rfl w0.heap.size r7 _ (P0 ++ [(p, q)]) [(z0, z1)] rfl rfl HRP.out HRA.out (someNone _ _ _) (by have := HPl.out; simp only [List.length_singleton, List.length_append]; omega) HRJ.out.size ?_
                   intro r3 w3 ho3 hg3 _
                   have HC3 : Hid (ownE intE w3 w0.heap.size r2 ((C0 ++ [n]) ++ [zc])) := Lib.hid (down_ints HRP.out HRC.out hg3)
                   have HP3 : Hid (ownE pairE w3 w0.heap.size r3 ((P0 ++ [(p, q)]) ++ [(z0, z1)])) := Lib.hid ho3
                   have HJ3 : Hid (Below w0.heap.size w0 w3) := Lib.hid (dbelow_own2 HRJ.out hg3 HRP.out)
                   have XC := Lib.hid (HA.out w3 HJ3.out)
                   clear ho3 hg3)
                | (refine step_append_elts pairE rfl (.tmp 70) (.tmp 78) rfl w0.heap.size r7 (.slice (some ⟨wy.heap.size + 1, 0, none⟩) 1 1) (P0 ++ [(p, q)]) [(z0, z1)] rfl rfl (by with_reducible exact OP4.out) (by with_reducible exact LA4.out) (someNone _ _ _) (by have := HPl.out; simp only [List.length_singleton, List.length_append]; omega) (by with_reducible exact SZ4.out) ?_
                   intro r2 w2 ho2 hg2 _
                   have HQP0 : Hid (ownE pairE w2 w0.heap.size r2 ((P0 ++ [(p, q)]) ++ [(z0, z1)])) := Lib.hid ho2
                   have HQC0 := Lib.hid (down_ints OP4.out OC4.out hg2)
                   have HJ2 : Hid (Below w0.heap.size w0 w2) := Lib.hid (dbelow_own2 BJ4.out hg2 OP4.out)
                   have XA := Lib.hid (HA.out w2 HJ2.out)
                   have HQP := Lib.hid HQP0.out
                   have HQC := Lib.hid HQC0.out
                   have HQB := Lib.hid (dlit_kept LB4.out HOwy.out (by simp) (by simp <;> omega) hg2)
                   have HQJ := Lib.hid HJ2.out
                   clear ho2 hg2)
                | (refine step_append_elts pairE rfl (.tmp 70) (.tmp 78) rfl w0.heap.size r7 (.slice (some ⟨wy.heap.size, 0, none⟩) 1 1) (P0 ++ [(p, q)]) [(z0, z1)] rfl rfl (by with_reducible exact OP2.out) (by with_reducible exact LA2.out) (someNone _ _ _) (by have := HPl.out; simp only [List.length_singleton, List.length_append]; omega) (by with_reducible exact SZ2.out) ?_
                   intro r2 w2 ho2 hg2 _
                   have HQP0 : Hid (ownE pairE w2 w0.heap.size r2 ((P0 ++ [(p, q)]) ++ [(z0, z1)])) := Lib.hid ho2
                   have HQC0 := Lib.hid (down_ints OP2.out OC2.out hg2)
                   have HJ2 : Hid (Below w0.heap.size w0 w2) := Lib.hid (dbelow_own2 BJ2.out hg2 OP2.out)
                   have XA := Lib.hid (HA.out w2 HJ2.out)
                   have HQP := Lib.hid HQP0.out
                   have HQC := Lib.hid HQC0.out
                   have HQB := Lib.hid (dlit_kept LB2.out HOwy.out (by simp) (by simp <;> omega) hg2)
                   have HQJ := Lib.hid HJ2.out
                   clear ho2 hg2)
                | (refine step_append_elts pairE rfl (.tmp 70) (.tmp 78) rfl w0.heap.size r7 (.slice (some ⟨wy.heap.size, 0, none⟩) 1 1) (P0 ++ [(p, q)]) [(z0, z1)] rfl rfl (by with_reducible exact OP1.out) (by with_reducible exact LA1.out) (someNone _ _ _) (by have := HPl.out; simp only [List.length_singleton, List.length_append]; omega) (by with_reducible exact SZ1.out) ?_
                   intro r2 w2 ho2 hg2 _
                   have HQP0 : Hid (ownE pairE w2 w0.heap.size r2 ((P0 ++ [(p, q)]) ++ [(z0, z1)])) := Lib.hid ho2
                   have HQC0 := Lib.hid (down_ints OP1.out OC1.out hg2)
                   have HJ2 : Hid (Below w0.heap.size w0 w2) := Lib.hid (dbelow_own2 BJ1.out hg2 OP1.out)
                   have XA := Lib.hid (HA.out w2 HJ2.out)
                   have HQP := Lib.hid (HQP0.out.alloc (.cells #[.int .i64 zc] 3))
                   have HQC := Lib.hid (HQC0.out.alloc (.cells #[.int .i64 zc] 3))
                   have HQB : Hid (eltsAt intE (w2.alloc (.cells #[.int .i64 zc] 3)) (.slice (some ⟨w2.heap.size, 0, none⟩) 1 1) [zc]) := Lib.hid (one_elt intE w2 zc)
                   have HQJ := Lib.hid (HJ2.out.alloc HJ2.out.size (.cells #[.int .i64 zc] 3))
                   have XB := Lib.hid (HA.out _ HQJ.out)
                   clear ho2 hg2)
                | (refine step_append_elts intE rfl (.tmp 80) (.tmp 88) rfl w0.heap.size r8 (.slice (some ⟨wy.heap.size + 1, 0, none⟩) 1 1) (C0 ++ [n]) [zc] rfl rfl (by with_reducible exact OC2.out) (by with_reducible exact LB2.out) (someNone _ _ _) (by have := HCl.out; simp only [List.length_singleton, List.length_append]; omega) (by with_reducible exact SZ2.out) ?_
                   intro r2 w2 ho2 hg2 _
                   have HRC0 : Hid (ownE intE w2 w0.heap.size r2 ((C0 ++ [n]) ++ [zc])) := Lib.hid ho2
                   have HRP0 := Lib.hid (down_pairs OP2.out OC2.out hg2)
                   have HJ2 : Hid (Below w0.heap.size w0 w2) := Lib.hid (dbelow_own2 BJ2.out hg2 OC2.out)
                   have XA := Lib.hid (HA.out w2 HJ2.out)
                   have HRC := Lib.hid HRC0.out
                   have HRP := Lib.hid HRP0.out
                   have HRA := Lib.hid (dlit_kept LA2.out HCwy.out (by simp) (by simp <;> omega) hg2)
                   have HRJ := Lib.hid HJ2.out
                   clear ho2 hg2)
                | (refine step_append_elts intE rfl (.tmp 80) (.tmp 88) rfl w0.heap.size r8 (.slice (some ⟨wy.heap.size, 0, none⟩) 1 1) (C0 ++ [n]) [zc] rfl rfl (by with_reducible exact OC4.out) (by with_reducible exact LB4.out) (someNone _ _ _) (by have := HCl.out; simp only [List.length_singleton, List.length_append]; omega) (by with_reducible exact SZ4.out) ?_
                   intro r2 w2 ho2 hg2 _
                   have HRC0 : Hid (ownE intE w2 w0.heap.size r2 ((C0 ++ [n]) ++ [zc])) := Lib.hid ho2
                   have HRP0 := Lib.hid (down_pairs OP4.out OC4.out hg2)
                   have HJ2 : Hid (Below w0.heap.size w0 w2) := Lib.hid (dbelow_own2 BJ4.out hg2 OC4.out)
                   have XA := Lib.hid (HA.out w2 HJ2.out)
                   have HRC := Lib.hid HRC0.out
                   have HRP := Lib.hid HRP0.out
                   have HRA := Lib.hid (dlit_kept LA4.out HCwy.out (by simp) (by simp <;> omega) hg2)
                   have HRJ := Lib.hid HJ2.out
                   clear ho2 hg2)
                | (refine step_append_elts intE rfl (.tmp 80) (.tmp 88) rfl w0.heap.size r8 (.slice (some ⟨wy.heap.size, 0, none⟩) 1 1) (C0 ++ [n]) [zc] rfl rfl (by with_reducible exact OC6.out) (by with_reducible exact LB6.out) (someNone _ _ _) (by have := HCl.out; simp only [List.length_singleton, List.length_append]; omega) (by with_reducible exact SZ6.out) ?_
                   intro r2 w2 ho2 hg2 _
                   have HRC0 : Hid (ownE intE w2 w0.heap.size r2 ((C0 ++ [n]) ++ [zc])) := Lib.hid ho2
                   have HRP0 := Lib.hid (down_pairs OP6.out OC6.out hg2)
                   have HJ2 : Hid (Below w0.heap.size w0 w2) := Lib.hid (dbelow_own2 BJ6.out hg2 OC6.out)
                   have XA := Lib.hid (HA.out w2 HJ2.out)
                   have HRC := Lib.hid (HRC0.out.alloc (.cells #[.int .i64 z0, .int .i64 z1] 41))
                   have HRP := Lib.hid (HRP0.out.alloc (.cells #[.int .i64 z0, .int .i64 z1] 41))
                   have HRA : Hid (eltsAt pairE (w2.alloc (.cells #[.int .i64 z0, .int .i64 z1] 41)) (.slice (some ⟨w2.heap.size, 0, none⟩) 1 1) [(z0, z1)]) := Lib.hid (one_elt pairE w2 (z0, z1))
                   have HRJ := Lib.hid (HJ2.out.alloc HJ2.out.size (.cells #[.int .i64 z0, .int .i64 z1] 41))
                   have XB := Lib.hid (HA.out _ HRJ.out)
                   clear ho2 hg2))
              all_goals clear OP1 OP2 OP4 OP6 OC1 OC2 OC4 OC6 SZ1 SZ2 SZ4 SZ6 BJ1 BJ2 BJ4 BJ6 LA1 LA2 LA4 LB2 LB4 LB6 G1 G2 G4 G6 HX0 HX1 HX2 HX4 HX6
              all_goals go_wp2
              all_goals go_roundw
              all_goals try (case measure => simp [intOf] <;> omega)
              all_goals exact ⟨k + 1, O ++ [((p, q), n)] ++ [((z0, z1), zc)], true, by simp, rfl, by rw [keys_snoc, keys_snoc, ← HPC.out.1]; exact HP3.out, by rw [vals_snoc, vals_snoc, ← HPC.out.2]; exact HC3.out, HJ3.out, Eq.mp (congrArg (fun y : (Int × Int) × Int => SInv L (p, q) n (k + 1) (O ++ [((p, q), n)] ++ [y]) true) HZ.out) (HIN.out.s7 HKLL.out (Eq.mpr (congrArg (fun y : (Int × Int) × Int => ¬ pb y.1 (p, q)) HZ.out) HTB.out) (fun e => HPQ.out ((congrArg Prod.fst HZ.out).symm.trans e)))⟩
      · obtain rfl : k = N := by omega
        have hgoI : ¬ (k : Int) < (k : Int) := by omega
        have HKN : Hid (k = L.length) := Lib.hid HN.out.symm
        cases d with
        | true =>
          obtain ⟨ka0, ka1, _, _⟩ := drcell (HKEY.out wr HJwr.out)
          obtain ⟨qa0, qa1⟩ := HBX.out wr HJwr.out
          go_wp2_with fail
          go_quiet (fail)
          have HJwq : Hid (Below w0.heap.size w0 (wr.drewN nq)) := Lib.hid (below_drewN' HJwr.out _)
          have HOwq : Hid (ownE pairE (wr.drewN nq) w0.heap.size u6 P0) := Lib.hid (HOwr.out.drewN _)
          have HCwq : Hid (ownE intE (wr.drewN nq) w0.heap.size u7 C0) := Lib.hid (HCwr.out.drewN _)
          clear ka0 ka1 qa0 qa1
          generalize wr.drewN nq = wq at *
          obtain ⟨kb0, kb1, _, _⟩ := drcell (HKEY.out wq HJwq.out)
          obtain ⟨qb0, qb1⟩ := HBX.out wq HJwq.out
          go_wp2_with fail
          go_quiet (fail)
          have HJwy : Hid (Below w0.heap.size w0 (wq.drewN nq)) := Lib.hid (below_drewN' HJwq.out _)
          have HOwy : Hid (ownE pairE (wq.drewN nq) w0.heap.size u6 P0) := Lib.hid (HOwq.out.drewN _)
          have HCwy : Hid (ownE intE (wq.drewN nq) w0.heap.size u7 C0) := Lib.hid (HCwq.out.drewN _)
          clear kb0 kb1 qb0 qb1
          generalize wq.drewN nq = wy at *
          go_wp2
          go_roundw
          case measure => simp [intOf] <;> omega
          case rel => exact ⟨k + 1, O, true, by simp, rfl, by rw [← HPC.out.1]; exact HOwy.out, by rw [← HPC.out.2]; exact HCwy.out, HJwy.out, HIN.out.s1 HKN.out⟩
        | false =>
          obtain ⟨ka0, ka1, _, _⟩ := drcell (HKEY.out wr HJwr.out)
          obtain ⟨qa0, qa1⟩ := HBX.out wr HJwr.out
          go_wp2_with fail
          go_quiet (fail)
          have HJwq : Hid (Below w0.heap.size w0 (wr.drewN nq)) := Lib.hid (below_drewN' HJwr.out _)
          have HOwq : Hid (ownE pairE (wr.drewN nq) w0.heap.size u6 P0) := Lib.hid (HOwr.out.drewN _)
          have HCwq : Hid (ownE intE (wr.drewN nq) w0.heap.size u7 C0) := Lib.hid (HCwr.out.drewN _)
          clear ka0 ka1 qa0 qa1
          generalize wr.drewN nq = wq at *
          obtain ⟨kb0, kb1, _, _⟩ := drcell (HKEY.out wq HJwq.out)
          obtain ⟨qb0, qb1⟩ := HBX.out wq HJwq.out
          have HEa : Hid (eltsAt pairE (wq.alloc (.cells #[.int .i64 p, .int .i64 q] 41)) (.slice (some ⟨wq.heap.size, 0, none⟩) 1 1) [(p, q)]) := Lib.hid (one_elt pairE wq (p, q))
          have HOa : Hid (ownE pairE (wq.alloc (.cells #[.int .i64 p, .int .i64 q] 41)) w0.heap.size u6 P0) := Lib.hid (HOwq.out.alloc _)
          have HCa : Hid (ownE intE (wq.alloc (.cells #[.int .i64 p, .int .i64 q] 41)) w0.heap.size u7 C0) := Lib.hid (HCwq.out.alloc _)
          have HJa : Hid (Below w0.heap.size w0 (wq.alloc (.cells #[.int .i64 p, .int .i64 q] 41))) := Lib.hid (HJwq.out.alloc HJwq.out.size _)
          go_wp2_with (first
            | (at_builtin
               refine wpList_append_elts intE rfl (.tmp 48) (.tmp 50) rfl w0.heap.size u7 _ C0 [n] rfl rfl HCb.out HEb.out (someNone _ _ _) (by have := HCl.out; simp only [List.length_singleton]; omega) HJb.out.size ?_
               intro r8 w8 ho8 hg8 _
               have HOw8 : Hid (ownE pairE w8 w0.heap.size r7 (P0 ++ [(p, q)])) := Lib.hid (down_pairs HOb.out HCb.out hg8)
               have HCw8 : Hid (ownE intE w8 w0.heap.size r8 (C0 ++ [n])) := Lib.hid ho8
               have HJw8 : Hid (Below w0.heap.size w0 w8) := Lib.hid (dbelow_own2 HJb.out hg8 HCb.out)
               clear ho8 hg8)
            | (at_builtin
               refine wpList_append_elts pairE rfl (.tmp 44) (.tmp 46) rfl w0.heap.size u6 _ P0 [(p, q)] rfl rfl HOa.out HEa.out (someNone _ _ _) (by have := HPl.out; simp only [List.length_singleton]; omega) HJa.out.size ?_
               intro r7 w7 ho7 hg7 _
               have HOb : Hid (ownE pairE (w7.alloc (.cells #[.int .i64 n] 3)) w0.heap.size r7 (P0 ++ [(p, q)])) := Lib.hid (ho7.alloc _)
               have HCb : Hid (ownE intE (w7.alloc (.cells #[.int .i64 n] 3)) w0.heap.size u7 C0) := Lib.hid ((down_ints HOa.out HCa.out hg7).alloc _)
               have HEb : Hid (eltsAt intE (w7.alloc (.cells #[.int .i64 n] 3)) (.slice (some ⟨w7.heap.size, 0, none⟩) 1 1) [n]) := Lib.hid (one_elt intE w7 n)
               have HJ7 : Hid (Below w0.heap.size w0 w7) := Lib.hid (dbelow_own2 HJa.out hg7 HOa.out)
               have HJb : Hid (Below w0.heap.size w0 (w7.alloc (.cells #[.int .i64 n] 3))) := Lib.hid (HJ7.out.alloc HJ7.out.size _)
               clear ho7 hg7))
          clear HEa HOa HCa HJa HOb HCb HEb HJ7 HJb
          clear kb0 kb1 qb0 qb1
          obtain ⟨kc0, kc1, _, _⟩ := drcell (HKEY.out w8 HJw8.out)
          obtain ⟨qc0, qc1⟩ := HBX.out w8 HJw8.out
          go_quiet (fail)
          have HJwy : Hid (Below w0.heap.size w0 (w8.drewN nq)) := Lib.hid (below_drewN' HJw8.out _)
          have HOwy : Hid (ownE pairE (w8.drewN nq) w0.heap.size r7 (P0 ++ [(p, q)])) := Lib.hid (HOw8.out.drewN _)
          have HCwy : Hid (ownE intE (w8.drewN nq) w0.heap.size r8 (C0 ++ [n])) := Lib.hid (HCw8.out.drewN _)
          clear kc0 kc1 qc0 qc1
          generalize w8.drewN nq = wy at *
          go_wp2
          go_roundw
          case measure => simp [intOf] <;> omega
          case rel => exact ⟨k + 1, O ++ [((p, q), n)], true, by simp, rfl, by rw [keys_snoc, ← HPC.out.1]; exact HOwy.out, by rw [vals_snoc, ← HPC.out.2]; exact HCwy.out, HJwy.out, HIN.out.s2 HKN.out⟩
    · have hleI : ¬ (k : Int) ≤ (N : Int) := by omega
      obtain rfl : d = true := hlast.resolve_left hle
      have HM : Hid (O = setC L (p, q) n) := Lib.hid (by
        have := HIN.out.rest
        rw [List.drop_of_length_le (by rw [HN.out]; omega)] at this
        simpa [delC] using this)
      obtain ⟨oa, oc, hof, _⟩ := HOwr.out.form
      obtain ⟨ma, mc, hmf, _⟩ := HCwr.out.form
      rw [keysC_len] at hof
      rw [valsC_len] at hmf
      obtain ⟨ON, hON⟩ : ∃ ON, O.length = ON := ⟨_, rfl⟩
      rw [hON] at hof hmf
      clear hON hO hkN hlast
      subst hof
      subst hmf
      have HCE := Lib.hid (HKEY.out wr HJwr.out)
      obtain ⟨c0, c1, f0, f1⟩ := drcell HCE.out
      obtain ⟨d1, g1⟩ := drcell1 HCE.out (.slice oa ON oc)
      go_wp2
      go_end0
      exact ⟨rfl, by rw [← HM.out]; exact rset_end HB0.out HKL.out.1 HKL.out.2 HJwr.out HCE.out HOwr.out HCwr.out⟩
end Go.Proofs.Ytbnekkcjkdghcaa
