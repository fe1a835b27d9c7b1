/- Texts in one: IxCount, IxGet. -/
import Derived.Test.YtejcemmhhpbchaaGreatGA
import Derived.Test.YtejcemmhhpbchaaGreatApWV
import Derived.Test.YtejcemmhhpbchaaGreatGH
import Derived.Deep.RegionHeld3
/- Changes added to an index's counts. -/
namespace Go.Proofs.YtejcemmhhpbchaaGreat
open Go.RowKit Go.Maps

/-- What count tells, and leaves, where every change can be added. -/
def CountRet (lab : Nat → Lab) (K N : Nat) (V : Int × Int → Value) (M : Mdl) (X : List Chg) (L' : Cn) (w : World) (e : Ending) (w' : World) : Prop :=
  ∃ r Y lab', e = .returned r ∧ ownE pairE w' w.heap.size r Y ∧ ChgSet M.cnt L' X Y ∧ (∀ g, r.ownBlock = some g → lab' g = .no) ∧ IxM w' lab' K N V { M with cnt := L' } ∧ XRet lab w lab' w' ∧ w'.heap[K]? = w.heap[K]?
set_option maxRecDepth 100000 in
set_option maxHeartbeats 4000000 in
theorem xadd_any (K N : Nat) (lab : Nat → Lab) (V : Int × Int → Value) (M : Mdl) (v : Value) (X : List Chg) (L' : Cn) (w : World) (h : IxM w lab K N V M) (hg : GoodC M.cnt) (hv : ∀ W, Kept (Mine lab) w W → eltsAt chgE W v X) (hf : ∀ x ∈ X, FitsCh x) (hr : runC 1 M.cnt X = (L', 0)) (hX : X.length ≤ 400000) (hL : M.cnt.length ≤ 400000) :
    Calls Tryz.prog 34 #[.pointer (some ⟨K, 0, none⟩), v] w fun e w' => CountRet lab K N V M X L' w e w' := by
  have H := Lib.hid h
  obtain ⟨wv, Kc, mc, b, E, h⟩ := h
  have HI := Lib.hid h
  have c1 := h.cells.2.1
  have hmine : ∀ i, dmineC Kc mc i → Mine lab i := by
    rintro i (rfl | e)
    · unfold Mine; rw [h.lc]; simp
    · unfold Mine; rw [h.lm i e.symm]; simp
  have cA := apply_any Kc mc M.cnt v X 1 w h.cts hg (fun W hW => hv W ⟨hW.os, hW.tape, hW.output, hW.size, fun i hi hm => hW.block i hi fun k => hm (hmine i k)⟩) hf (by unfold FitsZ; omega) hX hL
  have HR := Lib.hid hr
  have hel := hv w (Kept.refl _ w)
  obtain ⟨a, cap, rfl, _⟩ := hel
  clear h hv hf hr hg hmine
  go_enter Tryz.func34, Tryz.ntmps34
  go_wp2_with fail
  refine cA.mono ?_
  rintro e w1 ⟨r, Y, rfl, ho, _, hch, hcr⟩
  have HO := Lib.hid ho; have HC := Lib.hid hch; have HCR := Lib.hid hcr
  clear ho hch hcr cA c1
  go_wp2
  go_ret
  have hch := HC.out
  have hcr := HCR.out
  rw [HR.out] at hch hcr
  obtain ⟨lab', h1, h2, hKb, h3⟩ := HI.out.ctsAt hcr
  refine ⟨r, Y, lab', rfl, HO.out, hch rfl, fun g hg => ?_, h1, h2, hKb⟩
  obtain ⟨cs, hcs⟩ := HO.out.block g hg
  cases e : lab' g <;> first | rfl | (
    obtain ⟨es, clock, hm⟩ := h3 g (HO.out.lt g hg).1 (by rw [e]; simp)
    rw [hcs] at hm; cases hm)
end Go.Proofs.YtejcemmhhpbchaaGreat
/- What an index tells. -/
namespace Go.Proofs.YtejcemmhhpbchaaGreat
open Go.RowKit Go.Maps

set_option maxRecDepth 100000 in
set_option maxHeartbeats 2000000 in
theorem xcount_any (K N : Nat) (lab : Nat → Lab) (V : Int × Int → Value) (M : Mdl) (p q : Int) (w : World) (h : IxM w lab K N V M) (hp : FitsPr (p, q)) :
    Calls Tryz.prog 17 #[.pointer (some ⟨K, 0, none⟩), .agg #[.int .i64 p, .int .i64 q]] w fun e w' => e = .returned (.int .i64 (getC M.cnt (p, q))) ∧ Below w.heap.size w w' := by
  obtain ⟨wv, Kc, mc, b, E, h⟩ := h
  obtain ⟨c, hc⟩ : ∃ c, getC M.cnt (p, q) = c := ⟨_, rfl⟩
  rw [hc]
  obtain ⟨w1, hw1⟩ : ∃ w1, w1 = w.alloc (.cells #[.int .i64 p, .int .i64 q] 37) := ⟨_, rfl⟩
  obtain ⟨bx, hbx⟩ : ∃ bx, w.heap.size = bx := ⟨_, rfl⟩
  have B1 : Below w.heap.size w w1 := by rw [hw1]; exact (Below.refl _ w).alloc (Nat.le_refl _) _
  have hs1 : w1.heap.size = bx + 1 := by rw [hw1, ← hbx]; simp
  have h1 := h.below B1
  have HC : Hid (∀ W', Below w1.heap.size w1 W' → W'.cell? ⟨bx, 0, none⟩ = some (.int .i64 p) ∧ W'.cell? ⟨bx, 1, none⟩ = some (.int .i64 q) ∧ W'.cell? ⟨K, 1, none⟩ = some (.pointer (some ⟨Kc, 0, none⟩))) := Lib.hid (fun W' hW => by
    refine ⟨(hW.cell (show bx < w1.heap.size by omega)).trans ?_, (hW.cell (show bx < w1.heap.size by omega)).trans ?_, (hW.cell h1.ltK).trans h1.cells.2.1⟩
    · rw [hw1, ← hbx]; simp
    · rw [hw1, ← hbx]; simp)
  have HG : Hid (Calls Tryz.prog 39 #[.pointer (some ⟨Kc, 0, none⟩), .agg #[.int .i64 p, .int .i64 q]] w1.drew fun e w' => e = .returned (.int .i64 c) ∧ Below w1.heap.size w1 w') := Lib.hid (by
    refine (dget_any Kc mc M.cnt p q w1.drew (h1.drew).cts hp).mono ?_
    rintro e w' ⟨rfl, rfl⟩
    exact ⟨by rw [hc], (((Below.refl _ w1).drew).alloc (by show w1.heap.size ≤ w1.heap.size; omega) _).drew⟩)
  have HB1 := Lib.hid B1
  have HZ1 := Lib.hid (HC.out w1 (Below.refl _ _))
  have HZ2 := Lib.hid (HC.out w1.drew (Below.refl _ _).drew)
  have hw1' := hw1.symm
  clear h h1 B1 hw1 hs1 hc
  go_enter Tryz.func17, Tryz.ntmps17
  go_wp2_with fail
  go_region_held3 (fun w' => w'.cell? ⟨bx, 0, none⟩ = some (.int .i64 p) ∧ w'.cell? ⟨bx, 1, none⟩ = some (.int .i64 q) ∧ w'.cell? ⟨K, 1, none⟩ = some (.pointer (some ⟨Kc, 0, none⟩))) (first | exact HZ1.out | exact HZ2.out | exact HZ3.out) (first
    | (go_at_call 39
       with_reducible refine HG.out.mono ?_
       rintro e w3 ⟨rfl, hb3⟩
       have HZ3 := Lib.hid (HC.out w3 hb3)
       have HB3 := Lib.hid (HB1.out.trans (hb3.mono HB1.out.size))
       clear hb3))
  all_goals (go_wp2_with fail)
  all_goals go_ret
  all_goals exact ⟨rfl, HB3.out⟩
set_option maxRecDepth 100000 in
theorem xcount_nil (p q : Int) (w : World) : Calls Tryz.prog 17 #[.pointer none, .agg #[.int .i64 p, .int .i64 q]] w fun e w' => e = .returned (.int .i64 0) ∧ Below w.heap.size w w' := by
  have HB : Hid (Below w.heap.size w (w.alloc (.cells #[.int .i64 p, .int .i64 q] 37))) := Lib.hid ((Below.refl _ w).alloc (Nat.le_refl _) _)
  go_enter Tryz.func17, Tryz.ntmps17
  go_wp2
  go_ret
  exact ⟨rfl, HB.out⟩
set_option maxRecDepth 100000 in
theorem xpairs_any (K N : Nat) (lab : Nat → Lab) (V : Int × Int → Value) (M : Mdl) (w : World) (h : IxM w lab K N V M) (hl : M.cnt.length ≤ 1000000) : Calls Tryz.prog 16 #[.pointer (some ⟨K, 0, none⟩)] w fun e w' => RisRet w M.cnt e w' := by
  obtain ⟨wv, Kc, mc, b, E, h⟩ := h
  have c1 := h.cells.2.1
  have cA := dall_any Kc mc M.cnt w h.cts hl
  clear h
  go_enter Tryz.func16, Tryz.ntmps16
  go_wp2_with fail
  refine cA.mono ?_
  rintro e w1 ⟨r, rfl, ho, hb⟩
  have HO := Lib.hid ho; have HB := Lib.hid hb
  clear ho hb cA c1
  go_wp2
  go_ret
  exact ⟨_, rfl, HO.out, HB.out⟩
set_option maxRecDepth 100000 in
theorem xpairs_nil (w : World) : Calls Tryz.prog 16 #[.pointer none] w fun e w' => e = .returned (.slice none 0 0) ∧ w' = w := by
  go_enter Tryz.func16, Tryz.ntmps16
  go_wp2
  go_ret
  exact ⟨rfl, rfl⟩
set_option maxRecDepth 100000 in
theorem xpos_any (K N : Nat) (lab : Nat → Lab) (V : Int × Int → Value) (M : Mdl) (w : World) (h : IxM w lab K N V M) : Calls Tryz.prog 13 #[.pointer (some ⟨K, 0, none⟩)] w fun e w' => e = .returned (.int .i64 M.pos) ∧ w' = w := by
  obtain ⟨wv, Kc, mc, b, E, h⟩ := h
  have c1 := h.cells.2.2.2.1
  clear h
  go_enter Tryz.func13, Tryz.ntmps13
  go_wp2
  go_ret
  exact ⟨rfl, rfl⟩
set_option maxRecDepth 100000 in
theorem xpos_nil (w : World) : Calls Tryz.prog 13 #[.pointer none] w fun e w' => e = .returned (.int .i64 0) ∧ w' = w := by
  go_enter Tryz.func13, Tryz.ntmps13
  go_wp2
  go_ret
  exact ⟨rfl, rfl⟩
set_option maxRecDepth 100000 in
theorem xtou_any (K N : Nat) (lab : Nat → Lab) (V : Int × Int → Value) (M : Mdl) (w : World) (h : IxM w lab K N V M) : Calls Tryz.prog 22 #[.pointer (some ⟨K, 0, none⟩)] w fun e w' => e = .returned (.int .i64 M.tou) ∧ w' = w := by
  obtain ⟨wv, Kc, mc, b, E, h⟩ := h
  have c1 := h.cells.2.2.2.2.1
  clear h
  go_enter Tryz.func22, Tryz.ntmps22
  go_wp2
  go_ret
  exact ⟨rfl, rfl⟩
set_option maxRecDepth 100000 in
theorem xtou_nil (w : World) : Calls Tryz.prog 22 #[.pointer none] w fun e w' => e = .returned (.int .i64 0) ∧ w' = w := by
  go_enter Tryz.func22, Tryz.ntmps22
  go_wp2
  go_ret
  exact ⟨rfl, rfl⟩
set_option maxRecDepth 100000 in
theorem xsyms_any (K N : Nat) (lab : Nat → Lab) (V : Int × Int → Value) (M : Mdl) (j : Nat) (X : List Int) (t : Int) (w : World) (h : IxM w lab K N V M) (hj : M.ws[j]? = some (X, t)) : Calls Tryz.prog 19 #[.pointer (some ⟨K, 0, none⟩), .int .i64 (j : Int)] w fun e w' => ∃ r, e = .returned r ∧ ownE intE w' w.heap.size r X ∧ Below w.heap.size w w' := by
  obtain ⟨gw, c, k, g, Y, v0, hjl, v1, v2, hs, _⟩ := h.word hj
  obtain ⟨n, hn⟩ : ∃ n, M.ws.length = n := ⟨_, rfl⟩
  rw [hn] at v0 hjl
  have cS := symbols_any k g X Y w hs
  have hn0 : ¬ (j : Int) < 0 := by omega
  have hn1 : decide ((n : Int) ≤ (j : Int)) = false := decide_eq_false (by omega)
  clear h hj hs hn
  go_enter Tryz.func19, Tryz.ntmps19
  go_wp2_with fail
  refine cS.mono ?_
  rintro e w1 ⟨r, rfl, ho, hb⟩
  have HO := Lib.hid ho; have HB := Lib.hid hb
  clear ho hb cS
  go_wp2
  go_ret
  exact ⟨_, rfl, HO.out, HB.out⟩
set_option maxRecDepth 100000 in
theorem xsyms_nil (z : Int) (w : World) : Calls Tryz.prog 19 #[.pointer none, .int .i64 z] w fun e w' => e = .returned (.slice none 0 0) ∧ w' = w := by
  go_enter Tryz.func19, Tryz.ntmps19
  go_wp2
  go_ret
  exact ⟨rfl, rfl⟩
set_option maxRecDepth 100000 in
theorem clone_nil (w : World) : Calls Tryz.prog 42 #[.slice none 0 0] w fun e w' => e = .returned (.slice none 0 0) ∧ w' = w := by
  have hsn : (binOp .eql 43 (.slice none 0 0) (.slice none 0 0)).run Tryz.prog w = .ok (.bool true) w := by kernel_rfl
  go_enter Tryz.func42, Tryz.ntmps42
  go_wp2
  go_ret
  exact ⟨rfl, rfl⟩
set_option maxRecDepth 100000 in
theorem cloneE_any (b : Nat) (v : Value) (X : List Int) (w : World) (h : ownE intE w b v X) (hl : X.length ≤ 1000) : Calls Tryz.prog 42 #[v] w fun e w' => ∃ r, e = .returned r ∧ ownE intE w' w.heap.size r X ∧ Below w.heap.size w w' := by
  rcases h.2 with ⟨rfl, h0⟩ | ⟨g, cap, cur, rfl, _⟩
  · have : X = [] := List.length_eq_zero_iff.1 h0
    subst this
    refine (clone_nil w).mono ?_
    rintro e w' ⟨rfl, rfl⟩
    exact ⟨_, rfl, ownE.nil _ _, Below.refl _ _⟩
  · exact clone_any _ X w _ _ _ rfl h.reads hl
set_option maxRecDepth 100000 in
set_option maxHeartbeats 2000000 in
theorem xwords_any (K N : Nat) (lab : Nat → Lab) (V : Int × Int → Value) (M : Mdl) (p q : Int) (w : World) (h : IxM w lab K N V M) (hp : FitsPr (p, q)) (hl : (M.pl (p, q)).length ≤ 1000) :
    Calls Tryz.prog 21 #[.pointer (some ⟨K, 0, none⟩), .agg #[.int .i64 p, .int .i64 q]] w fun e w' => ∃ r, e = .returned r ∧ ownE intE w' w.heap.size r (M.pl (p, q)) ∧ Below w.heap.size w w' := by
  obtain ⟨wv, Kc, mc, b, E, h⟩ := h
  obtain ⟨L, hL⟩ : ∃ L, M.pl (p, q) = L := ⟨_, rfl⟩
  obtain ⟨u, hu⟩ : ∃ u, V (p, q) = u := ⟨_, rfl⟩
  rw [hL] at hl ⊢
  obtain ⟨w0, hw0⟩ : ∃ w0, w0 = w.alloc (.cells #[.int .i64 p, .int .i64 q] 37) := ⟨_, rfl⟩
  obtain ⟨bx, hbx⟩ : ∃ bx, w.heap.size = bx := ⟨_, rfl⟩
  have B0 : Below w.heap.size w w0 := by rw [hw0]; exact (Below.refl _ w).alloc (Nat.le_refl _) _
  have hs0 : w0.heap.size = bx + 1 := by rw [hw0, ← hbx]; simp
  have h0 := h.below B0
  have hlk := vlook h0.drew.vmap hp
  rw [hu] at hlk
  unfold pv at hlk
  simp only at hlk
  have hrow := h0.drew.rows (p, q)
  rw [hu, hL] at hrow
  have HC : Hid (∀ W', Below w0.heap.size w0 W' → W'.cell? ⟨bx, 0, none⟩ = some (.int .i64 p) ∧ W'.cell? ⟨bx, 1, none⟩ = some (.int .i64 q) ∧ W'.cell? ⟨K, 2, none⟩ = some (.map (some b))) := Lib.hid (fun W' hW => by
    refine ⟨(hW.cell (show bx < w0.heap.size by omega)).trans ?_, (hW.cell (show bx < w0.heap.size by omega)).trans ?_, (hW.cell h0.ltK).trans h0.cells.2.2.1⟩
    · rw [hw0, ← hbx]; simp
    · rw [hw0, ← hbx]; simp)
  have HG : Hid (Calls Tryz.prog 42 #[u] w0.drew fun e w' => ∃ r, e = .returned r ∧ ownE intE w' w0.heap.size r L ∧ Below w0.heap.size w0 w') := Lib.hid (by
    refine (cloneE_any 0 u L w0.drew hrow hl).mono ?_
    rintro e w' ⟨r, rfl, ho, hb⟩
    exact ⟨r, rfl, ho, ⟨hb.os, hb.tape, hb.output, hb.size, hb.block⟩⟩)
  have HB0 := Lib.hid B0
  have HZ1 := Lib.hid (HC.out w0 (Below.refl _ _))
  have HZ2 := Lib.hid (HC.out w0.drew (Below.refl _ _).drew)
  have hw0' := hw0.symm
  clear h h0 B0 hw0 hs0 hL hrow hl hu
  go_enter Tryz.func21, Tryz.ntmps21
  go_wp2_with fail
  go_region_held3 (fun w' => w'.cell? ⟨bx, 0, none⟩ = some (.int .i64 p) ∧ w'.cell? ⟨bx, 1, none⟩ = some (.int .i64 q) ∧ w'.cell? ⟨K, 2, none⟩ = some (.map (some b))) (first | exact HZ1.out | exact HZ2.out | exact HZ3.out) (first
    | (go_at_call 42
       with_reducible refine HG.out.mono ?_
       rintro e w3 ⟨r, rfl, ho3, hb3⟩
       have HZ3 := Lib.hid (HC.out w3 hb3)
       have HO3 := Lib.hid (ho3.mono HB0.out.size)
       have HB3 := Lib.hid (HB0.out.trans (hb3.mono HB0.out.size))
       clear hb3 ho3))
  all_goals (go_wp2_with fail)
  all_goals go_ret
  all_goals exact ⟨_, rfl, HO3.out, HB3.out⟩
set_option maxRecDepth 100000 in
theorem xwords_nil (p q : Int) (w : World) : Calls Tryz.prog 21 #[.pointer none, .agg #[.int .i64 p, .int .i64 q]] w fun e w' => e = .returned (.slice none 0 0) ∧ Below w.heap.size w w' := by
  have HB : Hid (Below w.heap.size w (w.alloc (.cells #[.int .i64 p, .int .i64 q] 37))) := Lib.hid ((Below.refl _ w).alloc (Nat.le_refl _) _)
  go_enter Tryz.func21, Tryz.ntmps21
  go_wp2
  go_ret
  exact ⟨rfl, HB.out⟩
end Go.Proofs.YtejcemmhhpbchaaGreat
