/- HeapDrains: drained, as far as one likes. -/
import Derived.Test.YtnonkhnajloloaaHeapDrP
namespace Go.Proofs.Ytnonkhnajloloaa
open Go.RowKit Go.Shelf
open Go.Sort (grow grow_empty grow_grow alloc_eq_grow heap_grow_old)
attribute [local go_sem] Oper.semAt_some

set_option maxRecDepth 100000 in
set_option maxHeartbeats 4000000 in
theorem heapDrains_walk (x : Value) (few : Int) (w : World) (L : List It) (hx : eltsAt itE w x L) (_ : L.length ≤ maxLen) (_ : FitsIts L) (hnil : nilNone x) (_ : ∀ a n c, x = .slice a n c → n ≤ c) (hfew : (Lit.int .u8 few).wf = true) :
    Calls Try.prog 4 #[x, .int .u8 few] w fun e w' => e = .returned (.bool true) ∧ Below w.heap.size w w' := by
  have hf0 := bounds_u8 hfew
  have HX := Lib.hid hx
  have HNil := Lib.hid hnil
  obtain ⟨a, cap, rfl, hxc⟩ := hx
  clear hxc
  obtain ⟨n, hn⟩ : ∃ n, L.length = n := ⟨_, rfl⟩
  have HN := Lib.hid hn
  rw [hn] at HX HNil ⊢
  clear hnil hn hfew
  obtain ⟨Nf, hNf⟩ : ∃ Nf, w.heap.size = Nf := ⟨_, rfl⟩
  obtain ⟨wa, hwa⟩ : ∃ wa, w.alloc (.cells #[.int .u8 few] 5) = wa := ⟨_, rfl⟩
  obtain ⟨w1, hw1⟩ : ∃ w1, wa.alloc (.cells #[.bool false] 4) = w1 := ⟨_, rfl⟩
  have za : wa.heap.size = Nf + 1 := by rw [← hwa, World.size_alloc, hNf]
  have z1 : w1.heap.size = Nf + 2 := by rw [← hw1, World.size_alloc, za]
  have ba : Below w.heap.size w wa := by rw [← hwa]; exact (Below.refl _ w).alloc (Nat.le_refl _) _
  have b1 : Below wa.heap.size wa w1 := by rw [← hw1]; exact (Below.refl _ wa).alloc (Nat.le_refl _) _
  have ga : wa.heap[Nf]? = some (.cells #[.int .u8 few] 5 (0, 0)) := by rw [← hwa, ← hNf]; exact heap_alloc_new w _
  have HF1 : Hid (w1.heap[Nf]? = some (.cells #[.int .u8 few] 5 (0, 0))) := Lib.hid ((b1.block Nf (by omega)).trans ga)
  have HR1 : Hid (w1.heap[Nf + 1]? = some (.cells #[.bool false] 4 (0, 0))) := Lib.hid (by rw [← hw1, ← za]; exact heap_alloc_new wa _)
  have HB1 : Hid (Below w.heap.size w w1) := Lib.hid (ba.trans (b1.mono (by omega)))
  have HZ1 := Lib.hid z1; have HNf := Lib.hid hNf
  have cA := awake_any w1
  have hsq := Try.isSeq
  clear ba b1 ga z1
  refine (callsIn_wide (n := 8)).1 ?_
  refine callsIn_of_wp_marks Try.func4 rfl trivial ?_ rfl
  simp only [Try.ntmps4, List.size_toArray, List.length_cons, List.length_nil, Nat.reduceAdd, Nat.reduceSub, Array.replicate_succ, Array.replicate_zero, List.push_toArray, List.append_toArray, List.nil_append, List.cons_append]
  gi_wp2_with fail
  refine ⟨trivial, (callsIn_wide.2 cA).mono ?_⟩
  rintro e w2 ⟨rfl, hb2⟩
  have HF2 : Hid (w2.heap[Nf]? = some (.cells #[.int .u8 few] 5 (0, 0))) := Lib.hid ((hb2.block _ (Array.getElem?_eq_some_iff.1 HF1.out).1).trans HF1.out)
  have HR2 : Hid (w2.heap[Nf + 1]? = some (.cells #[.bool false] 4 (0, 0))) := Lib.hid ((hb2.block _ (Array.getElem?_eq_some_iff.1 HR1.out).1).trans HR1.out)
  have HB2 := Lib.hid (HB1.out.trans (hb2.mono HB1.out.size))
  have HZ2 : Hid (Nf + 2 ≤ w2.heap.size) := Lib.hid (by have := hb2.size; rw [HZ1.out] at this; exact this)
  clear cA hb2 hwa hw1 za hNf
  by_cases hbig : 200 < n
  · have hb : (200 : Int) < (n : Int) := by omega
    have r0 : w2.cell? ⟨Nf + 1, 0, none⟩ = some (.bool false) := by rw [cell_of_row w2 (Nf + 1) 0 _ 4 (0, 0) HR2.out]; rfl
    have r1 : w2.frozen? ⟨Nf + 1, 0, none⟩ = false := Lib.frozen_of_heap HR2.out _
    gi_wp2
    have hN4 : (w2.setCell ⟨Nf + 1, 0, none⟩ (.bool true)).heap[Nf + 1]? = some (.cells #[.bool true] 4 (0, 0)) := (heap_setCell_at HR2.out _).trans rfl
    have x0 := cell_of_row _ (Nf + 1) 0 _ 4 (0, 0) hN4
    refine ⟨.bool true, (by rw [results_cell1q rfl]; simp [go_sem, x0]), rfl, ?_⟩
    exact HB2.out.setCell (p := ⟨Nf + 1, 0, none⟩) (by rw [HNf.out]; exact Nat.le_succ _) _
  · have hb : ¬ (200 : Int) < (n : Int) := by omega
    have hn2 : n ≤ 200 := by omega
    clear hbig
    have cO := mk_any (.slice a n cap) L w2 (HX.out.below HB2.out (Nat.le_refl _)) HNil.out (by rw [HN.out]; omega)
    gi_wp2_with fail
    refine ⟨trivial, (callsIn_wide.2 cO).mono ?_⟩
    rintro e w3 ⟨K1, v1, A, rfl, hp3, hh3, ho3, hb3⟩
    have HP3 := Lib.hid hp3; have HH3 := Lib.hid hh3; have HO3 := Lib.hid ho3; have HB3' := Lib.hid hb3
    have HB3 := Lib.hid (HB2.out.trans (hb3.mono HB2.out.size))
    have HEM := Lib.hid (it_empty w3)
    have HFE : Hid (eltsAt itE (w3.alloc (.cells #[] 32)) (.slice a n cap) L) := Lib.hid (HX.out.below (HB3.out.alloc HB3.out.size _) (Nat.le_refl _))
    clear cO hp3 hh3 ho3 hb3
    gi_wp2_with (gi_at_builtin; refine wpListIn_append_elts itE rfl (.tmp 19) (.tmp 20) rfl w3.heap.size (.slice (some ⟨w3.heap.size, 0, none⟩) 0 0) _ [] L rfl rfl HEM.out HFE.out HNil.out (by simp; rw [HN.out]; omega) (by rw [World.size_alloc]; omega) ?_; intro r w4 ho4 hg4 hr4; rw [List.nil_append] at ho4; obtain ⟨ra, rc, e4, _⟩ := ho4.form; rw [HN.out] at e4; subst e4; have HO4 := Lib.hid ho4; have HG4 := Lib.hid hg4; clear ho4 hg4 hr4)
    have hb4 : Below w3.heap.size w3 w4 := ((Below.refl _ w3).alloc (Nat.le_refl _) _).grown HG4.out (by rw [World.size_alloc]; omega) (fun k e => by cases e; exact Nat.le_refl _)
    obtain ⟨K2, hK2⟩ : ∃ K2, w4.heap.size = K2 := ⟨_, rfl⟩
    obtain ⟨w5, hw5⟩ : ∃ w5, w4.alloc (.cells #[.slice ra n rc, .int .i64 0, .int .i64 0] 28) = w5 := ⟨_, rfl⟩
    obtain ⟨w6, hw6⟩ : ∃ w6, w5.alloc (.cells #[.pointer (some ⟨K2, 0, none⟩)] 26) = w6 := ⟨_, rfl⟩
    obtain ⟨w7, hw7⟩ : ∃ w7, w6.alloc (.cells #[.int .i64 0] 3) = w7 := ⟨_, rfl⟩
    rw [hK2, hw5, hw6, hw7]
    obtain ⟨Nk, hNk⟩ : ∃ Nk, K2 + 1 + 1 = Nk := ⟨_, rfl⟩
    rw [hNk]
    obtain ⟨Nx, hNx⟩ : ∃ Nx, K2 + 1 = Nx := ⟨_, rfl⟩
    rw [hNx]
    have z5 : w5.heap.size = K2 + 1 := by rw [← hw5, World.size_alloc, hK2]
    have z6 : w6.heap.size = K2 + 2 := by rw [← hw6, World.size_alloc, z5]
    have z7 : w7.heap.size = K2 + 3 := by rw [← hw7, World.size_alloc, z6]
    have b5 : Below w4.heap.size w4 w5 := by rw [← hw5]; exact (Below.refl _ w4).alloc (Nat.le_refl _) _
    have b6 : Below w5.heap.size w5 w6 := by rw [← hw6]; exact (Below.refl _ w5).alloc (Nat.le_refl _) _
    have b7 : Below w6.heap.size w6 w7 := by rw [← hw7]; exact (Below.refl _ w6).alloc (Nat.le_refl _) _
    have cD := drain_any K1 w7
    obtain ⟨N, hN⟩ : ∃ N, w7.heap.size = N := ⟨_, rfl⟩
    obtain ⟨wL, hwL⟩ : ∃ wL, w7.alloc (.cells #[.pointer (some ⟨K1, 0, none⟩)] 24) = wL := ⟨_, rfl⟩
    rw [hN, hwL] at cD
    have b8 : Below w7.heap.size w7 wL := by rw [← hwL]; exact (Below.refl _ w7).alloc (Nat.le_refl _) _
    have hb57 : Below w5.heap.size w5 wL := b6.trans ((b7.mono (by omega)).trans (b8.mono (by omega)))
    have hb47 : Below w4.heap.size w4 wL := b5.trans (hb57.mono (by omega))
    have hb37 : Below w3.heap.size w3 wL := hb4.trans (hb47.mono hb4.size)
    have hrow : ownE itE wL w3.heap.size (.slice ra n rc) L := HO4.out.below hb47
    have HS : Hid (DrS w few ((0 : Nat) : Int) (n : Int) K1 N K2 Nf (Nf + 1) Nx Nk (.slice ra n rc) A L (v1, A) wL) := Lib.hid
      ⟨⟨by have h := (HO3.out.below hb37).mono HB2.out.size; rw [HN.out] at h; exact h, HH3.out, by rw [← hwL, ← hN]; exact heap_alloc_new w7 _⟩,
        ⟨(hb57.block K2 (by omega)).trans (by rw [← hw5, ← hK2]; exact heap_alloc_new w4 _), hrow.mono HB3.out.size, by rw [HN.out]; omega, by have := hb4.size; have := HB3.out.size; omega⟩,
        HP3.out,
        fun k h1 h2 => by
          have h3 := (HO3.out.in' k h1).2
          rcases h2 with h2 | h2
          · have := hb4.size; omega
          · have := (hrow.lt k h2.symm).1; omega,
        ⟨(hb37.block Nf (by have := HB3'.out.size; have := HZ2.out; omega)).trans ((HB3'.out.block Nf (by have := HZ2.out; omega)).trans HF2.out),
          (hb37.block (Nf + 1) (by have := HB3'.out.size; have := HZ2.out; omega)).trans ((HB3'.out.block (Nf + 1) (by have := HZ2.out; omega)).trans HR2.out),
          (b8.block Nx (by omega)).trans ((b7.block Nx (by omega)).trans (by rw [← hw6, ← hNx, ← z5]; exact heap_alloc_new w5 _)),
          (b8.block Nk (by omega)).trans (by rw [← hw7, ← hNk, show K2 + 1 + 1 = w6.heap.size from z6.symm]; exact heap_alloc_new w6 _)⟩,
        HB3.out.trans (hb37.mono HB3.out.size)⟩
    have HWL : Hid (w.heap.size ≤ wL.heap.size ∧ w.heap.size ≤ Nk) := Lib.hid ⟨by have := HB3.out.size; have := hb37.size; omega, by have := HB3.out.size; have := hb4.size; omega⟩
    unfold seqV at cD
    clear b5 b6 b7 b8 hb57 hb47 hb37 hrow hb4 hw5 hw6 hw7 hwL hN z5 z6 z7 hK2 hNk hNx
    refine ⟨trivial, (callsIn_wide.2 cD).mono ?_⟩
    rintro e w8 ⟨rfl, rfl⟩
    clear cD
    gi_wp2_with fail
    refine wpIn_range_hand (σ := Value × List It) (α := It) (encs := fun x => #[itV x]) rfl (by omega) (gf := 26) (lb := #[.pointer (some ⟨N, 0, none⟩)]) rfl trivial (enters_of Try.func26 (by kernel_rfl) rfl)
      (drain_hand bet_of N 7 (by omega)) (fun _ => rfl) (fun s W V ho hf => Kept.others hf ho.1.blocks)
      (fun s W => ∃ (j : Nat) (v2 : Value) (L' : List It), s.2.length + j = n ∧ (j : Int) ≤ few ∧ DrS w few (j : Int) (n : Int) K1 N K2 Nf (Nf + 1) Nx Nk v2 s.2 L' s W)
      (fun c W => c = .exit 0 ∧ ∃ (s : Value × List It) (j : Nat) (v2 : Value) (P L' : List It), s.2.length + j = n ∧ (j : Int) = capOf (n : Int) few ∧ DrS w few (j : Int) (n : Int) K1 N K2 Nf (Nf + 1) Nx Nk v2 P L' s W)
      (fun W => ∃ (s : Value × List It) (j : Nat) (v2 : Value) (P L' : List It), s.2.length + j = n ∧ (j : Int) = capOf (n : Int) few ∧ DrS w few (j : Int) (n : Int) K1 N K2 Nf (Nf + 1) Nx Nk v2 P L' s W) (v1, A)
      (fun s W h => by obtain ⟨j, v2, L', _, _, h⟩ := h; exact h.own) (fun s W V h k => by obtain ⟨j, v2, L', h1, h2, h⟩ := h; exact ⟨j, v2, L', h1, h2, h.blink k HWL.out.1⟩)
      (fun c W V h k => by obtain ⟨hc, s, j, v2, P, L', h1, h2, h⟩ := h; exact ⟨hc, s, j, v2, P, L', h1, h2, h.blink k HWL.out.1⟩)
      (fun W V h k => by obtain ⟨s, j, v2, P, L', h1, h2, h⟩ := h; exact ⟨s, j, v2, P, L', h1, h2, h.blink k HWL.out.1⟩)
      ⟨0, _, L, by show A.length + 0 = n; rw [HP3.out.length_eq, HN.out]; rfl, by omega, HS.out⟩
      (fun s W V h hf ho hfr => by
        obtain ⟨j, v2, L', h1, h2, h⟩ := h
        have e : s.2 = [] := hf
        have e2 : s.2.length = 0 := by rw [e]; rfl
        exact ⟨s, j, v2, _, L', h1, by rw [capOf_all (by omega)]; omega, h.turn ho hfr rfl⟩) ?round ?done ?stop
    case round =>
      intro l s x s' W V h hn ho hf
      obtain ⟨j, v2, L', hj1, hj2, h⟩ := h
      obtain ⟨t, et, hpt, hob⟩ := hn
      have hh := h.own.2.1
      have hpm := h.perm
      rw [et] at hh hpm
      obtain ⟨hm1, hm2, hin, her⟩ := top_most hh hpm
      have hV := h.turn ho hf hob
      obtain ⟨M, hM⟩ : ∃ M, V.heap.size = M := ⟨_, rfl⟩
      have HV := Lib.hid hV; have HIN := Lib.hid hin; have HER := Lib.hid her; have HPT := Lib.hid hpt; have HM1 := Lib.hid hm1; have HM2 := Lib.hid hm2
      have HJ : Hid (s'.2.length + (j + 1) = n) := Lib.hid (by rw [hpt.length_eq]; rw [et] at hj1; simp only [List.length_cons] at hj1; omega)
      have HJ2 : Hid ((j : Int) ≤ few) := Lib.hid hj2
      have hjn : j ≤ 200 := by omega
      clear h hh hpm hm1 hm2 hin her hV hpt ho hf hj1 HS et hob hj2
      unfold itV
      gi_wp2
      refine ⟨KeepsOthers.alloc _ _, fun V2 hb2 => ?_⟩
      have hbx := box_blink (BoxI.new V x.1 x.2).heap hb2
      rw [hM] at hbx
      have HBX := Lib.hid (BoxI.mk hbx)
      obtain ⟨m0, m1, _, _⟩ := HBX.out.cells
      have HV2 := Lib.hid (HV.out.blink ((Blink.alloc _ V _).trans hb2) HWL.out.1)
      obtain ⟨q1, q2, q3, q4, q5, q6⟩ := HV2.out.box.cells
      have cM := most_any HV2.out.r
      rw [HM1.out, HM2.out] at cM
      have cD := drop_any x HV2.out.r HV2.out.bel.size
      unfold DropRet itV at cD
      rw [decide_eq_true HIN.out] at cD
      clear hb2 hbx
      gi_wp2_with fail
      refine ⟨trivial, (CallsIn.inRound l (callsIn_wide.2 cM)).mono ?_⟩
      rintro e V2 ⟨rfl, rfl⟩
      clear cM
      gi_wp2_with fail
      refine ⟨trivial, (CallsIn.inRound l (callsIn_wide.2 cD)).mono ?_⟩
      rintro e V3 ⟨rfl, v3, hr3, hk3, hm3⟩
      have HK3 : Hid (KeepsOthers V2 V3) := Lib.hid (Kept.others hk3 HV2.out.r.blocks)
      have HV3 := Lib.hid (HV2.out.drop hr3 (HPT.out.trans HER.out.symm) hk3 hm3)
      obtain ⟨p1, p2, p3, p4, p5, p6⟩ := HV3.out.box.cells
      obtain ⟨V4, hV4⟩ : ∃ V4, V3.setCell ⟨Nk, 0, none⟩ (.int .i64 ((j + 1 : Nat) : Int)) = V4 := ⟨_, rfl⟩
      have hV4' := HV3.out.count HWL.out.2 ((j + 1 : Nat) : Int)
      have HK4 : Hid (KeepsOthers V2 V4) := Lib.hid (by rw [← hV4]; exact HK3.out.trans (KeepsOthers.setCell _ _ _))
      rw [hV4] at hV4'
      have HV4 := Lib.hid hV4'
      obtain ⟨c1, c2, c3, c4, c5, c6⟩ := hV4'.box.cells
      have hcast : (j : Int) + 1 = ((j + 1 : Nat) : Int) := by omega
      obtain ⟨j1, hj1⟩ : ∃ j1, j + 1 = j1 := ⟨_, rfl⟩
      rw [hj1] at hV4 c4 hcast HV4 HJ
      have HJ1 := Lib.hid hj1
      have hw1 : IntKind.i64.wrap ((j : Int) + 1) = (j1 : Int) := by rw [IntWalk.i64_in _ (by omega)]; exact hcast
      have hw2 : IntKind.i64.wrap (j1 : Int) = (j1 : Int) := IntWalk.i64_in _ (by omega)
      have hw3 : IntKind.i64.wrap few = few := IntWalk.i64_in _ (by omega)
      clear cD hr3 hk3 hm3 hV4' q1 q2 q3 q4 q5 q6 hj1 m0 m1
      by_cases hgt : few < (j1 : Int)
      · gi_wp2
        refine ⟨HK4.out, rfl, s', j1, _, _, _, HJ.out, ?_, HV4.out⟩
        have h1 := HJ2.out
        have h2 := HJ.out
        have h3 := HJ1.out
        rw [capOf_some (by omega)]
        omega
      · gi_wp2
        exact ⟨HK4.out, j1, _, _, HJ.out, by omega, HV4.out⟩
    case done =>
      rintro D W ⟨s, j, v2, P, L', h1, h2, h⟩ hK hD
      have hN0 := h.box.cr
      obtain ⟨q1, q2, q3, q4, q5, q6⟩ := h.box.cells
      obtain ⟨m, hm⟩ : ∃ m, s.2.length = m := ⟨_, rfl⟩
      have cL := hlen_any h.own.1.drew
      rw [hm] at cL h1
      have hmn : ∀ ty w, (Builtin.min_ #[3, 3] ty #[.int .i64 (n : Int), .int .i64 (few + 1)]).run Try.prog w = .ok (.int .i64 (j : Int)) w := fun ty w => by
        rw [run_min_int2, h2]
        rfl
      have hw1 : IntKind.i64.wrap few = few := IntWalk.i64_in _ (by omega)
      have hw2 : IntKind.i64.wrap (few + 1) = few + 1 := IntWalk.i64_in _ (by omega)
      have hw3 : IntKind.i64.wrap ((n : Int) - (j : Int)) = (m : Int) := by rw [IntWalk.i64_in _ (by omega)]; omega
      have HH := Lib.hid h; have HK := Lib.hid hK; have HD := Lib.hid hD
      clear h h1 h2 hm hK hD HS
      gi_wp2_with fail
      refine wpIn_wide.2 ?_
      have g4 : (W.drew.setCell ⟨Nf + 1, 0, none⟩ (.bool true)).cell? ⟨Nk, 0, none⟩ = some (.int .i64 (j : Int)) := by
        rw [World.cell?_setCell_other _ _ _ _ (by intro e; cases e; have h1 := HH.out.box.cr; have h2 := HH.out.box.ck; rw [h1] at h2; cases h2)]
        exact q4
      have g1 : (W.drew.setCell ⟨Nf + 1, 0, none⟩ (.bool true)).cell? ⟨Nf, 0, none⟩ = some (.int .u8 few) := by
        rw [World.cell?_setCell_other _ _ _ _ (by intro e; cases e)]
        exact q1
      go_region_held3 (fun w' => w'.cell? ⟨Nk, 0, none⟩ = some (.int .i64 (j : Int)) ∧ w'.cell? ⟨Nf, 0, none⟩ = some (.int .u8 few)) (first | exact ⟨q4, q1⟩ | exact ⟨g4, g1⟩) (first | (go_at_call 15; refine cL.mono ?_; rintro e W5 ⟨rfl, rfl⟩))
      all_goals (
        gi_wp2
        have hne : Nf + 1 ≠ D := by
          intro e
          have h1 := HH.out.box.cr
          rw [e, HK.out] at h1
          cases h1
        have hN4 : (W.setCell ⟨Nf + 1, 0, none⟩ (.bool true)).drew.heap[Nf + 1]? = some (.cells #[.bool true] 4 (0, 0)) := (heap_setCell_at HH.out.box.cr _).trans rfl
        have hD4 : (W.setCell ⟨Nf + 1, 0, none⟩ (.bool true)).drew.heap[D]? = some (.deferred (some [])) := (Below.heap_setCell _ ⟨Nf + 1, 0, none⟩ _ D (fun e => hne e.symm)).trans HK.out
        refine ⟨by simp, .inl ⟨_, _, rfl, run_takeDeferred hD4, ?_⟩⟩
        have hN5 : ((W.setCell ⟨Nf + 1, 0, none⟩ (.bool true)).drew.putObj D (.deferred none)).heap[Nf + 1]? = some (.cells #[.bool true] 4 (0, 0)) := (World.putObj_heap_other hne).trans hN4
        have x0 := cell_of_row _ (Nf + 1) 0 _ 4 (0, 0) hN5
        refine ⟨.bool true, (by rw [results_cell1q rfl]; simp [go_sem, x0]), rfl, ?_⟩
        have h6 : Below w.heap.size w (W.setCell ⟨Nf + 1, 0, none⟩ (.bool true)).drew := (HH.out.bel.setCell (p := ⟨Nf + 1, 0, none⟩) (by rw [HNf.out]; exact Nat.le_succ _) _).drew
        exact h6.trans ((Blink.putObj (.deferred none) (show w.heap.size ≤ D by have := HWL.out; have := HD.out; omega) hD4 rfl).below (Nat.le_refl _) h6.size))
    case stop =>
      rintro D c W ⟨rfl, s, j, v2, P, L', h1, h2, h⟩ hK hD
      have hN0 := h.box.cr
      obtain ⟨q1, q2, q3, q4, q5, q6⟩ := h.box.cells
      obtain ⟨m, hm⟩ : ∃ m, s.2.length = m := ⟨_, rfl⟩
      have cL := hlen_any h.own.1.drew
      rw [hm] at cL h1
      have hmn : ∀ ty w, (Builtin.min_ #[3, 3] ty #[.int .i64 (n : Int), .int .i64 (few + 1)]).run Try.prog w = .ok (.int .i64 (j : Int)) w := fun ty w => by
        rw [run_min_int2, h2]
        rfl
      have hw1 : IntKind.i64.wrap few = few := IntWalk.i64_in _ (by omega)
      have hw2 : IntKind.i64.wrap (few + 1) = few + 1 := IntWalk.i64_in _ (by omega)
      have hw3 : IntKind.i64.wrap ((n : Int) - (j : Int)) = (m : Int) := by rw [IntWalk.i64_in _ (by omega)]; omega
      have HH := Lib.hid h; have HK := Lib.hid hK; have HD := Lib.hid hD
      clear h h1 h2 hm hK hD HS
      gi_wp2_with fail
      refine wpIn_wide.2 ?_
      have g4 : (W.drew.setCell ⟨Nf + 1, 0, none⟩ (.bool true)).cell? ⟨Nk, 0, none⟩ = some (.int .i64 (j : Int)) := by
        rw [World.cell?_setCell_other _ _ _ _ (by intro e; cases e; have h1 := HH.out.box.cr; have h2 := HH.out.box.ck; rw [h1] at h2; cases h2)]
        exact q4
      have g1 : (W.drew.setCell ⟨Nf + 1, 0, none⟩ (.bool true)).cell? ⟨Nf, 0, none⟩ = some (.int .u8 few) := by
        rw [World.cell?_setCell_other _ _ _ _ (by intro e; cases e)]
        exact q1
      go_region_held3 (fun w' => w'.cell? ⟨Nk, 0, none⟩ = some (.int .i64 (j : Int)) ∧ w'.cell? ⟨Nf, 0, none⟩ = some (.int .u8 few)) (first | exact ⟨q4, q1⟩ | exact ⟨g4, g1⟩) (first | (go_at_call 15; refine cL.mono ?_; rintro e W5 ⟨rfl, rfl⟩))
      all_goals (
        gi_wp2
        have hne : Nf + 1 ≠ D := by
          intro e
          have h1 := HH.out.box.cr
          rw [e, HK.out] at h1
          cases h1
        have hN4 : (W.setCell ⟨Nf + 1, 0, none⟩ (.bool true)).drew.heap[Nf + 1]? = some (.cells #[.bool true] 4 (0, 0)) := (heap_setCell_at HH.out.box.cr _).trans rfl
        have hD4 : (W.setCell ⟨Nf + 1, 0, none⟩ (.bool true)).drew.heap[D]? = some (.deferred (some [])) := (Below.heap_setCell _ ⟨Nf + 1, 0, none⟩ _ D (fun e => hne e.symm)).trans HK.out
        refine ⟨by simp, .inl ⟨_, _, rfl, run_takeDeferred hD4, ?_⟩⟩
        have hN5 : ((W.setCell ⟨Nf + 1, 0, none⟩ (.bool true)).drew.putObj D (.deferred none)).heap[Nf + 1]? = some (.cells #[.bool true] 4 (0, 0)) := (World.putObj_heap_other hne).trans hN4
        have x0 := cell_of_row _ (Nf + 1) 0 _ 4 (0, 0) hN5
        refine ⟨.bool true, (by rw [results_cell1q rfl]; simp [go_sem, x0]), rfl, ?_⟩
        have h6 : Below w.heap.size w (W.setCell ⟨Nf + 1, 0, none⟩ (.bool true)).drew := (HH.out.bel.setCell (p := ⟨Nf + 1, 0, none⟩) (by rw [HNf.out]; exact Nat.le_succ _) _).drew
        exact h6.trans ((Blink.putObj (.deferred none) (show w.heap.size ≤ D by have := HWL.out; have := HD.out; omega) hD4 rfl).below (Nat.le_refl _) h6.size))
end Go.Proofs.Ytnonkhnajloloaa
