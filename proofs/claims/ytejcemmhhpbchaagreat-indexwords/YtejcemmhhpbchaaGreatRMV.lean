/- The document's Merge, Count and before. -/
import Derived.Test.YtejcemmhhpbchaaGreatGF
import Derived.BigQuiet
namespace Go.Proofs.YtejcemmhhpbchaaGreat
open Go.RowKit Go.Maps
open Go.Sort (grow grow_empty grow_grow alloc_eq_grow heap_grow_old)

section
variable {X : List Int} {p : Int × Int} {s : Int} {k : Nat}
set_option maxRecDepth 100000 in
theorem mL_merge (h1 : k + 1 < X.length) (e0 : X[k] = p.1) (e1 : X[k + 1] = p.2) : mergeL p s (X.drop k) = s :: mergeL p s (X.drop (k + 2)) ∧ timesL p (X.drop k) = timesL p (X.drop (k + 2)) + 1 := by
  rw [drop_two h1, mergeL, timesL, if_pos ⟨e0, e1⟩, if_pos ⟨e0, e1⟩]
  exact ⟨rfl, rfl⟩
set_option maxRecDepth 100000 in
theorem mL_keep (h1 : k < X.length) (hno : ∀ h2 : k + 1 < X.length, ¬ (X[k] = p.1 ∧ X[k + 1] = p.2)) : mergeL p s (X.drop k) = X[k] :: mergeL p s (X.drop (k + 1)) ∧ timesL p (X.drop k) = timesL p (X.drop (k + 1)) := by
  have hd : X.drop k = X[k] :: X.drop (k + 1) := List.drop_eq_getElem_cons h1
  by_cases h2 : k + 1 < X.length
  · have hd2 : X.drop (k + 1) = X[k + 1] :: X.drop (k + 2) := List.drop_eq_getElem_cons h2
    rw [hd, hd2, mergeL, timesL, if_neg (hno h2), if_neg (hno h2)]
    exact ⟨rfl, rfl⟩
  · have : X.drop (k + 1) = [] := List.drop_eq_nil_of_le (by omega)
    rw [hd, this]
    exact ⟨rfl, rfl⟩
end
set_option maxRecDepth 100000 in
theorem add_succ (ad : Addr) (k : Nat) : ad.add (k + 1) = ⟨ad.block, ad.off + (k + 1), none⟩ := by unfold Addr.add; simp
def RMgRel (w1 : World) (B : Nat) (X : List Int) (p : Int × Int) (s : Int) (o n i : Value) (wr : World) : Prop :=
  ∃ (k m : Nat) (M : List Int), i = .int .i64 (k : Int) ∧ n = .int .i64 (m : Int) ∧ k ≤ X.length ∧ M.length ≤ k ∧ M ++ mergeL p s (X.drop k) = mergeL p s X ∧ m + timesL p (X.drop k) = timesL p X ∧ ownE intE wr B o M ∧ Below w1.heap.size w1 wr
set_option maxRecDepth 100000 in
theorem rmg_step {w1 wr w5 : World} {B k k' m m' : Nat} {X M : List Int} {p : Int × Int} {s t : Int} {o r : Value} {z y : Int} {ob : Obj} (hB : B = w1.heap.size) (hk' : k' ≤ X.length) (hkk : k < k') (hl : M.length ≤ k) (h1 : M ++ mergeL p s (X.drop k) = mergeL p s X) (h2 : m + timesL p (X.drop k) = timesL p X)
    (e1 : mergeL p s (X.drop k) = t :: mergeL p s (X.drop k')) (e2 : m + timesL p (X.drop k) = m' + timesL p (X.drop k')) (hz : z = (k' : Int)) (hy : y = (m' : Int)) (hb : Below w1.heap.size w1 wr) (ho : ownE intE wr B o M) (h5 : ownE intE w5 B r (M ++ [t])) (hg : (wr.alloc ob).grownBy w5 o.ownBlock) :
    RMgRel w1 B X p s r (.int .i64 y) (.int .i64 z) w5 := by
  subst hz
  subst hy
  have hs := hb.size
  refine ⟨k', m', M ++ [t], rfl, rfl, hk', by simp; omega, ?_, by omega, h5, (hb.alloc hs ob).grown hg (by rw [World.size_alloc]; omega) fun g e => by have := (ho.lt g e).1; omega⟩
  rw [← h1, e1]; simp
set_option maxRecDepth 100000 in
set_option maxHeartbeats 4000000 in
theorem rsmerge_any (v : Value) (X : List Int) (p q s : Int) (w : World) (hv : eltsAt intE w v X) (hl : X.length ≤ 1000) :
    Calls Tryz.prog 35 #[v, .agg #[.int .i64 p, .int .i64 q], .int .i64 s] w fun e w' => ∃ r, e = .returned (.tuple #[r, .int .i64 (timesL (p, q) X : Int)]) ∧ ownE intE w' w.heap.size r (mergeL (p, q) s X) ∧ Below w.heap.size w w' := by
  obtain ⟨w1, hw1⟩ : ∃ w1, w1 = w.alloc (.cells #[.int .i64 p, .int .i64 q] 37) := ⟨_, rfl⟩
  have HB0 : Hid (Below w.heap.size w w1) := Lib.hid (by rw [hw1]; exact (Below.refl _ w).alloc (Nat.le_refl _) _)
  have b0 : w1.cell? ⟨w.heap.size, 0, none⟩ = some (.int .i64 p) := by rw [hw1]; simp
  have b1 : w1.cell? ⟨w.heap.size, 1, none⟩ = some (.int .i64 q) := by rw [hw1]; simp
  have HLT : Hid (w.heap.size < w1.heap.size) := Lib.hid (by rw [hw1]; simp)
  have HV := Lib.hid (hv.below HB0.out (Nat.le_refl _))
  obtain ⟨a, c, rfl, _⟩ := hv
  have hw' := hw1.symm
  clear hw1
  go_enter Tryz.func35, Tryz.ntmps35
  go_wp2
  clear hw'
  go_loopw [8, 9, 10] (fun o n i wr => RMgRel w1 w1.heap.size X (p, q) s o n i wr) (fun _ _ i _ => X.length - (intOf i).toNat)
  case atStart => exact ⟨0, 0, [], rfl, rfl, Nat.zero_le _, Nat.le_refl _, by simp, by simp, ownE.nil w1 _, Below.refl _ w1⟩
  case round =>
    obtain ⟨k, m, M, rfl, rfl, hk, hml, h1, h2, ho, hbel⟩ := hrel
    have HO := Lib.hid ho; have HB := Lib.hid hbel; have H1 := Lib.hid h1; have H2 := Lib.hid h2
    have hm : m ≤ timesL (p, q) X := by omega
    have hml2 := pmerge_len (p := (p, q)) (s := s) X
    have HX := Lib.hid (HV.out.below hbel (Nat.le_refl _))
    have d0 : wr.cell? ⟨w.heap.size, 0, none⟩ = some (.int .i64 p) := (hbel.cell HLT.out).trans b0
    have d1 : wr.cell? ⟨w.heap.size, 1, none⟩ = some (.int .i64 q) := (hbel.cell HLT.out).trans b1
    clear ho hbel h1 h2
    by_cases hgo : k < X.length
    · obtain ⟨ad, rfl, c0⟩ := int_at HX.out hgo
      have hwk : IntKind.i64.wrap ((k : Int) + 1) = (k : Int) + 1 := IntWalk.i64_in _ (by omega)
      have i1 : (k : Int) < (X.length : Int) := by omega
      have i2 : (0 : Int) ≤ (k : Int) + 1 := by omega
      have i4 : ((k : Int) + 1).toNat = k + 1 := by omega
      by_cases h2 : k + 1 < X.length
      · obtain ⟨ad', e', c1⟩ := int_at HX.out h2
        cases e'
        have hgoI : (k : Int) + 1 < (X.length : Int) := by omega
        have hdI : decide ((k : Int) + 1 < (X.length : Int)) = true := decide_eq_true hgoI
        obtain ⟨x0, hx0⟩ : ∃ x0, X[k] = x0 := ⟨_, rfl⟩
        obtain ⟨x1, hx1⟩ : ∃ x1, X[k + 1] = x1 := ⟨_, rfl⟩
        rw [hx0] at c0
        rw [hx1, add_succ] at c1
        by_cases e0 : x0 = p
        · by_cases e1 : x1 = q
          · subst e0
            subst e1
            obtain ⟨q1, q2⟩ := mL_merge (p := (x0, x1)) (s := s) h2 hx0 hx1
            have Q1 := Lib.hid q1; have Q2 := Lib.hid q2
            clear q1 q2 hx0 hx1
            go_wp2_with fail
            go_quiet (fail)
            have HBn : Hid (Below w1.heap.size w1 (wr.drewN nq)) := Lib.hid (below_drewN' HB.out nq)
            have HOn := Lib.hid (HO.out.drewN nq)
            clear d0 d1 c0 c1
            generalize wr.drewN nq = wz at *
            have HA := Lib.hid (HOn.out.alloc (.cells #[.int .i64 s] 3))
            have HE := Lib.hid (one_elt intE wz s)
            have HZ : Hid (w1.heap.size ≤ (wz.alloc (.cells #[.int .i64 s] 3)).heap.size) := Lib.hid (by rw [World.size_alloc]; have := HBn.out.size; omega)
            go_wp2_with (at_builtin; refine wpList_append_elts intE rfl (.tmp 41) (.tmp 43) rfl w1.heap.size u8 _ M [s] rfl rfl HA.out HE.out (someNone _ _ _) (by simp; omega) HZ.out ?_; intro r5 w5 hown5 hg5 _; have HO5 := Lib.hid hown5; have HG5 := Lib.hid hg5; clear hown5 hg5)
            go_roundw
            case measure => simp [intOf]; omega
            case rel => exact rmg_step rfl (by omega : k + 2 ≤ X.length) (by omega) hml H1.out H2.out Q1.out (by rw [Q2.out]; omega : m + timesL (x0, x1) (X.drop k) = (m + 1) + timesL (x0, x1) (X.drop (k + 2))) (by simp; omega) (by simp) HBn.out HOn.out HO5.out HG5.out
          · subst e0
            have hne : (x1 == q) = false := by simp [e1]
            obtain ⟨q1, q2⟩ := mL_keep (p := (x0, q)) (s := s) hgo (fun _ e => e1 (hx1.symm.trans e.2))
            rw [hx0] at q1
            have Q1 := Lib.hid q1; have Q2 := Lib.hid q2
            clear q1 q2 hx0 hx1
            go_wp2_with fail
            go_quiet (fail)
            have HBn : Hid (Below w1.heap.size w1 (wr.drewN nq)) := Lib.hid (below_drewN' HB.out nq)
            have HOn := Lib.hid (HO.out.drewN nq)
            have cz : (wr.drewN nq).cell? (ad.add k) = some (.int .i64 x0) := c0
            clear d0 d1 c0 c1
            generalize wr.drewN nq = wz at *
            have HA := Lib.hid (HOn.out.alloc (.cells #[.int .i64 x0] 3))
            have HE := Lib.hid (one_elt intE wz x0)
            have HZ : Hid (w1.heap.size ≤ (wz.alloc (.cells #[.int .i64 x0] 3)).heap.size) := Lib.hid (by rw [World.size_alloc]; have := HBn.out.size; omega)
            go_wp2_with (at_builtin; refine wpList_append_elts intE rfl (.tmp 49) (.tmp 54) rfl w1.heap.size u8 _ M [x0] rfl rfl HA.out HE.out (someNone _ _ _) (by simp; omega) HZ.out ?_; intro r5 w5 hown5 hg5 _; have HO5 := Lib.hid hown5; have HG5 := Lib.hid hg5; clear hown5 hg5)
            go_roundw
            case measure => simp [intOf]; omega
            case rel => exact rmg_step rfl (by omega : k + 1 ≤ X.length) (by omega) hml H1.out H2.out Q1.out (by rw [Q2.out] : m + timesL (x0, q) (X.drop k) = m + timesL (x0, q) (X.drop (k + 1))) (by simp) rfl HBn.out HOn.out HO5.out HG5.out
        · have hne : (x0 == p) = false := by simp [e0]
          obtain ⟨q1, q2⟩ := mL_keep (p := (p, q)) (s := s) hgo (fun _ e => e0 (hx0.symm.trans e.1))
          rw [hx0] at q1
          have Q1 := Lib.hid q1; have Q2 := Lib.hid q2
          clear q1 q2 hx0 hx1
          go_wp2_with fail
          go_quiet (fail)
          have HBn : Hid (Below w1.heap.size w1 (wr.drewN nq)) := Lib.hid (below_drewN' HB.out nq)
          have HOn := Lib.hid (HO.out.drewN nq)
          have cz : (wr.drewN nq).cell? (ad.add k) = some (.int .i64 x0) := c0
          clear d0 d1 c0 c1
          generalize wr.drewN nq = wz at *
          have HA := Lib.hid (HOn.out.alloc (.cells #[.int .i64 x0] 3))
          have HE := Lib.hid (one_elt intE wz x0)
          have HZ : Hid (w1.heap.size ≤ (wz.alloc (.cells #[.int .i64 x0] 3)).heap.size) := Lib.hid (by rw [World.size_alloc]; have := HBn.out.size; omega)
          go_wp2_with (at_builtin; refine wpList_append_elts intE rfl (.tmp 49) (.tmp 54) rfl w1.heap.size u8 _ M [x0] rfl rfl HA.out HE.out (someNone _ _ _) (by simp; omega) HZ.out ?_; intro r5 w5 hown5 hg5 _; have HO5 := Lib.hid hown5; have HG5 := Lib.hid hg5; clear hown5 hg5)
          go_roundw
          case measure => simp [intOf]; omega
          case rel => exact rmg_step rfl (by omega : k + 1 ≤ X.length) (by omega) hml H1.out H2.out Q1.out (by rw [Q2.out] : m + timesL (p, q) (X.drop k) = m + timesL (p, q) (X.drop (k + 1))) (by simp) rfl HBn.out HOn.out HO5.out HG5.out
      · have hdI : decide ((k : Int) + 1 < (X.length : Int)) = false := decide_eq_false (by omega)
        obtain ⟨x0, hx0⟩ : ∃ x0, X[k] = x0 := ⟨_, rfl⟩
        rw [hx0] at c0
        obtain ⟨q1, q2⟩ := mL_keep (p := (p, q)) (s := s) hgo (fun h => absurd h h2)
        rw [hx0] at q1
        have Q1 := Lib.hid q1; have Q2 := Lib.hid q2
        clear q1 q2 hx0 
        go_wp2_with fail
        go_quiet (fail)
        have HBn : Hid (Below w1.heap.size w1 (wr.drewN nq)) := Lib.hid (below_drewN' HB.out nq)
        have HOn := Lib.hid (HO.out.drewN nq)
        have cz : (wr.drewN nq).cell? (ad.add k) = some (.int .i64 x0) := c0
        clear d0 d1 c0 
        generalize wr.drewN nq = wz at *
        have HA := Lib.hid (HOn.out.alloc (.cells #[.int .i64 x0] 3))
        have HE := Lib.hid (one_elt intE wz x0)
        have HZ : Hid (w1.heap.size ≤ (wz.alloc (.cells #[.int .i64 x0] 3)).heap.size) := Lib.hid (by rw [World.size_alloc]; have := HBn.out.size; omega)
        go_wp2_with (at_builtin; refine wpList_append_elts intE rfl (.tmp 49) (.tmp 54) rfl w1.heap.size u8 _ M [x0] rfl rfl HA.out HE.out (someNone _ _ _) (by simp; omega) HZ.out ?_; intro r5 w5 hown5 hg5 _; have HO5 := Lib.hid hown5; have HG5 := Lib.hid hg5; clear hown5 hg5)
        go_roundw
        case measure => simp [intOf]; omega
        case rel => exact rmg_step rfl (by omega : k + 1 ≤ X.length) (by omega) hml H1.out H2.out Q1.out (by rw [Q2.out] : m + timesL (p, q) (X.drop k) = m + timesL (p, q) (X.drop (k + 1))) (by simp) rfl HBn.out HOn.out HO5.out HG5.out
    · obtain rfl : k = X.length := by omega
      have HM : Hid (M = mergeL (p, q) s X ∧ m = timesL (p, q) X) := Lib.hid ⟨by have := H1.out; rw [List.drop_length] at this; simpa [mergeL] using this, by have := H2.out; rw [List.drop_length] at this; simpa [timesL] using this⟩
      go_wp2
      go_ret2
      exact ⟨u8, by rw [← HM.out.2]; rfl, by rw [← HM.out.1]; exact HO.out.mono (by have := HLT.out; omega), HB0.out.trans (HB.out.mono HB0.out.size)⟩
set_option maxRecDepth 100000 in
theorem cnt_two {X : List Int} {k : Nat} (h : k + 1 < X.length) (q : Int × Int) : cntP (X.take (k + 2)) q = cntP (X.take (k + 1)) q + (if (X[k], X[k + 1]) = q then 1 else 0) := by
  have := cnt_take (X := X) (k := k + 1) (by omega) h q
  simpa using this
set_option maxRecDepth 100000 in
set_option maxHeartbeats 4000000 in
theorem count_any (v : Value) (X : List Int) (p q : Int) (w : World) (hv : eltsAt intE w v X) (hl : X.length ≤ 1000) :
    Calls Tryz.prog 41 #[v, .agg #[.int .i64 p, .int .i64 q]] w fun e w' => e = .returned (.int .i64 (cntP X (p, q))) ∧ ∃ q os', w' = grow (w.drewN q) os' := by
  obtain ⟨w1, hw1⟩ : ∃ w1, w1 = w.alloc (.cells #[.int .i64 p, .int .i64 q] 37) := ⟨_, rfl⟩
  have HB0 : Hid (Below w.heap.size w w1) := Lib.hid (by rw [hw1]; exact (Below.refl _ w).alloc (Nat.le_refl _) _)
  have HG : Hid (∀ n, ∃ q os', w1.drewN n = grow (w.drewN q) os') := Lib.hid fun n => ⟨n, _, by rw [hw1, alloc_eq_grow]; rfl⟩
  have b0 : w1.cell? ⟨w.heap.size, 0, none⟩ = some (.int .i64 p) := by rw [hw1]; simp
  have b1 : w1.cell? ⟨w.heap.size, 1, none⟩ = some (.int .i64 q) := by rw [hw1]; simp
  have HV := Lib.hid (hv.below HB0.out (Nat.le_refl _))
  obtain ⟨a, c, rfl, _⟩ := hv
  have hw' := hw1.symm
  clear hw1
  go_enter Tryz.func41, Tryz.ntmps41
  go_wp2
  clear hw'
  go_loopw [5, 6] (fun n i wr => (∃ k : Nat, i = .int .i64 (k : Int) ∧ k ≤ X.length ∧ n = .int .i64 (cntP (X.take (k + 1)) (p, q))) ∧ ∃ n, wr = w1.drewN n) (fun _ i _ => X.length - (intOf i).toNat)
  case atStart => exact ⟨⟨0, rfl, Nat.zero_le _, by rw [cnt_take_one]⟩, 0, rfl⟩
  case round =>
    obtain ⟨⟨k, rfl, hk, rfl⟩, n, rfl⟩ := hrel
    have hwk : IntKind.i64.wrap ((k : Int) + 1) = (k : Int) + 1 := IntWalk.i64_in _ (by omega)
    by_cases h2 : k + 1 < X.length
    · obtain ⟨ad, rfl, c0⟩ := int_at HV.out (k := k) (by omega)
      obtain ⟨ad', e', c1⟩ := int_at HV.out h2
      cases e'
      have f0 : (w1.drewN n).cell? (ad.add k) = some (.int .i64 X[k]) := c0
      have f1 : (w1.drewN n).cell? (ad.add (k + 1)) = some (.int .i64 X[k + 1]) := c1
      have g0 : (w1.drewN n).cell? ⟨w.heap.size, 0, none⟩ = some (.int .i64 p) := b0
      have g1 : (w1.drewN n).cell? ⟨w.heap.size, 1, none⟩ = some (.int .i64 q) := b1
      have i1 : (k : Int) < (X.length : Int) := by omega
      have i2 : (0 : Int) ≤ (k : Int) + 1 := by omega
      have i3 : (k : Int) + 1 < (X.length : Int) := by omega
      have i4 : ((k : Int) + 1).toNat = k + 1 := by omega
      have hct := cnt_two h2 (p, q)
      have hcl := cnt_le (X.take (k + 1)) (p, q)
      have hcn := cnt_nonneg (X.take (k + 1)) (p, q)
      have htl : ((X.take (k + 1)).length : Int) ≤ 1000 := by simp; omega
      obtain ⟨x0, hx0⟩ : ∃ x0, X[k] = x0 := ⟨_, rfl⟩
      obtain ⟨x1, hx1⟩ : ∃ x1, X[k + 1] = x1 := ⟨_, rfl⟩
      obtain ⟨cn, hcN⟩ : ∃ cn, cntP (X.take (k + 1)) (p, q) = cn := ⟨_, rfl⟩
      rw [hx0] at f0 hct
      rw [hx1] at f1 hct
      rw [add_succ] at f1
      rw [hcN] at hct hcl hcn
      rw [hcN]
      have hwc : IntKind.i64.wrap (cn + 1) = cn + 1 := IntWalk.i64_in _ (by omega)
      have HCT := Lib.hid hct
      clear c0 c1 hx0 hx1 hct hcN hcl hcn htl
      generalize hwd : w1.drewN n = wd at *
      by_cases e0 : x0 = p
      · by_cases e1 : x1 = q
        · subst e0
          subst e1
          go_wp2_with fail
          go_quiet (fail)
          go_wp2
          go_roundw
          case measure => simp [intOf]; omega
          case rel => exact ⟨⟨k + 1, by simp, by omega, by rw [HCT.out]; simp⟩, n + nq, by rw [← hwd, World.drewN_drewN]⟩
        · subst e0
          have hne : (x1 == q) = false := by simp [e1]
          go_wp2_with fail
          go_quiet (fail)
          go_wp2
          go_roundw
          case measure => simp [intOf]; omega
          case rel => exact ⟨⟨k + 1, by simp, by omega, by rw [HCT.out, if_neg (fun e => e1 (Prod.mk.inj e).2)]; simp⟩, n + nq, by rw [← hwd, World.drewN_drewN]⟩
      · have hne : (x0 == p) = false := by simp [e0]
        go_wp2_with fail
        go_quiet (fail)
        go_wp2
        go_roundw
        case measure => simp [intOf]; omega
        case rel => exact ⟨⟨k + 1, by simp, by omega, by rw [HCT.out, if_neg (fun e => e0 (Prod.mk.inj e).1)]; simp⟩, n + nq, by rw [← hwd, World.drewN_drewN]⟩
    · have HT : Hid (X.take (k + 1) = X) := Lib.hid (List.take_of_length_le (by omega))
      go_wp2
      go_ret
      exact ⟨by rw [HT.out]; rfl, HG.out _⟩
end Go.Proofs.YtejcemmhhpbchaaGreat
