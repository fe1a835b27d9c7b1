/- HeapPlays: through any pushes and pops. (Its text by wip/tools/gen_hplays.py.) -/
import Derived.Test.YtnonkhnajloloaaHeapPlP
import Derived.Test.YtnonkhnajloloaaItArg
namespace Go.Proofs.Ytnonkhnajloloaa
open Go.RowKit Go.Shelf
open Go.Sort (grow grow_empty grow_grow alloc_eq_grow heap_grow_old)

set_option maxRecDepth 100000 in
theorem PlS.drewN {w W : World} {K1 K2 : Nat} {pu pk : Int} {v1 v2 : Value} {A L : List It} (s : PlS w K1 K2 pu pk v1 v2 A L W) (n : Nat) : PlS w K1 K2 pu pk v1 v2 A L (W.drewN n) :=
  ⟨s.h.drewN n, s.o, ⟨s.r.box, s.r.row, s.r.few, s.r.base⟩, s.perm, s.apart, ⟨s.bel.os, s.bel.tape, s.bel.output, s.bel.size, s.bel.block⟩⟩
def PlayRel (w : World) (K1 K2 nF nQ : Nat) (i : Value) (wr : World) : Prop :=
  ∃ (k : Nat) (v1 v2 : Value) (A L : List It) (pu pk : Int), i = .int .i64 (k : Int) ∧ k ≤ nQ ∧ 0 ≤ pu ∧ pu ≤ k ∧ A.length ≤ nF + k ∧ PlS w K1 K2 pu pk v1 v2 A L wr
set_option maxRecDepth 100000 in
set_option maxHeartbeats 4000000 in
theorem heapPlays_walk (x y : Value) (w : World) (F : List It) (hF : eltsAt itE w x F) (_ : F.length ≤ maxLen) (_ : FitsIts F) (hFn : nilNone x) (_ : ∀ a n c, x = .slice a n c → n ≤ c)
    (Q : List It) (hQ : eltsAt itE w y Q) (_ : Q.length ≤ maxLen) (_ : FitsIts Q) (_ : nilNone y) (_ : ∀ a n c, y = .slice a n c → n ≤ c) :
    Calls Try.prog 3 #[x, y] w fun e w' => e = .returned (.bool true) ∧ Below w.heap.size w w' := by
  have HF := Lib.hid hF; have HFN := Lib.hid hFn; have HQ := Lib.hid hQ
  obtain ⟨a, cap, rfl, hc1⟩ := hF
  obtain ⟨b, dap, rfl, hc2⟩ := hQ
  clear hc1 hc2
  obtain ⟨nF, hnF⟩ : ∃ nF, F.length = nF := ⟨_, rfl⟩
  obtain ⟨nQ, hnQ⟩ : ∃ nQ, Q.length = nQ := ⟨_, rfl⟩
  have HNF := Lib.hid hnF; have HNQ := Lib.hid hnQ
  rw [hnF] at HF HFN ⊢
  rw [hnQ] at HQ ⊢
  have cA := awake_any w
  clear hFn hnF hnQ
  by_cases hb1 : 200 < nF
  · have hb : (200 : Int) < (nF : Int) := by omega
    go_enter Try.func3, Try.ntmps3
    go_wp2_with fail
    refine cA.mono ?_
    rintro e w1 ⟨rfl, hb1⟩
    have HB1 := Lib.hid hb1
    clear hb1 cA
    go_wp2
    go_ret
    exact ⟨rfl, HB1.out⟩
  by_cases hb2 : 300 < nQ
  · have hb : ¬ (200 : Int) < (nF : Int) := by omega
    have hb' : (300 : Int) < (nQ : Int) := by omega
    go_enter Try.func3, Try.ntmps3
    go_wp2_with fail
    refine cA.mono ?_
    rintro e w1 ⟨rfl, hb1⟩
    have HB1 := Lib.hid hb1
    clear hb1 cA
    go_wp2
    go_ret
    exact ⟨rfl, HB1.out⟩
  have hb : ¬ (200 : Int) < (nF : Int) := by omega
  have hb' : ¬ (300 : Int) < (nQ : Int) := by omega
  have hnF2 : nF ≤ 200 := by omega
  have hnQ2 : nQ ≤ 300 := by omega
  clear hb1 hb2
  go_enter Try.func3, Try.ntmps3
  go_wp2_with fail
  refine cA.mono ?_
  rintro e w1 ⟨rfl, hb1⟩
  have HB1 := Lib.hid hb1
  have cO := mk_any (.slice a nF cap) F w1 (HF.out.below hb1 (Nat.le_refl _)) HFN.out (by rw [HNF.out]; omega)
  clear hb1 cA
  go_wp2_with fail
  refine cO.mono ?_
  rintro e w2 ⟨K1, v1, A, rfl, hp2, hh2, ho2, hb2⟩
  have HP2 := Lib.hid hp2; have HH2 := Lib.hid hh2; have HO2 := Lib.hid ho2
  have HB2 := Lib.hid (HB1.out.trans (hb2.mono HB1.out.size))
  obtain ⟨N, hN⟩ : ∃ N, w2.heap.size = N := ⟨_, rfl⟩
  have HEM := Lib.hid (it_empty w2)
  have HFE : Hid (eltsAt itE (w2.alloc (.cells #[] 32)) (.slice a nF cap) F) := Lib.hid (HF.out.below (HB2.out.alloc HB2.out.size _) (Nat.le_refl _))
  have HN := Lib.hid hN
  clear cO hp2 hh2 ho2 hb2 hN
  go_wp2_with (at_builtin; refine wpList_append_elts itE rfl (.tmp 26) (.tmp 27) rfl w2.heap.size (.slice (some ⟨w2.heap.size, 0, none⟩) 0 0) _ [] F rfl rfl HEM.out HFE.out HFN.out (by simp; rw [HNF.out]; omega) (by rw [World.size_alloc]; omega) ?_; intro r w3 ho3 hg3 hr3; rw [List.nil_append] at ho3; obtain ⟨ra, rc, e3, _⟩ := ho3.form; rw [HNF.out] at e3; subst e3; have HO3 := Lib.hid ho3; have HG3 := Lib.hid hg3; clear ho3 hg3 hr3)
  have hb3 : Below w2.heap.size w2 w3 := ((Below.refl _ w2).alloc (Nat.le_refl _) _).grown HG3.out (by rw [World.size_alloc]; omega) (fun k e => by cases e; exact Nat.le_refl _)
  obtain ⟨K2, hK2⟩ : ∃ K2, w3.heap.size = K2 := ⟨_, rfl⟩
  obtain ⟨w4, hw4⟩ : ∃ w4, w3.alloc (.cells #[.slice ra nF rc, .int .i64 0, .int .i64 (nF : Int)] 28) = w4 := ⟨_, rfl⟩
  have hb4 : Below w2.heap.size w2 w4 := by rw [← hw4]; exact hb3.alloc hb3.size _
  have hbox : w4.heap[K2]? = some (.cells #[.slice ra nF rc, .int .i64 0, .int .i64 (nF : Int)] 28 (0, 0)) := by rw [← hw4, ← hK2]; exact heap_alloc_new w3 _
  have hrow : ownE itE w4 w2.heap.size (.slice ra nF rc) F := by rw [← hw4]; exact HO3.out.alloc _
  have HS : Hid (PlayRel w K1 K2 nF nQ (.int .i64 (0 : Int)) w4) := Lib.hid ⟨0, v1, .slice ra nF rc, A, F, 0, (nF : Int), rfl, Nat.zero_le _, Int.le_refl _, Int.le_refl _, by rw [HP2.out.length_eq, HNF.out]; omega,
    ⟨by have h := (HO2.out.below hb4).mono HB1.out.size; rw [HNF.out] at h; exact h, HH2.out,
      ⟨hbox, hrow.mono HB2.out.size, by rw [HNF.out]; omega, by have := hb3.size; have := HB2.out.size; omega⟩, HP2.out,
      fun k h1 h2 => by
        have h3 := (HO2.out.in' k h1).2
        rcases h2 with h2 | h2
        · have := hb3.size; omega
        · have := (hrow.lt k h2.symm).1; omega,
      HB2.out.trans (hb4.mono HB2.out.size)⟩⟩
  rw [hw4, hK2]
  clear hb3 hb4 hbox hrow hw4 hK2
  go_wp2
  go_loopw [7] (fun i wr => PlayRel w K1 K2 nF nQ i wr) (fun i _ => nQ - (intOf i).toNat)
  case atStart => exact HS.out
  case round =>
    clear HS
    obtain ⟨k, v1, v2, A, L, pu, pk, rfl, hk, hpu0, hpu1, hal, hs⟩ := hrel
    have HS := Lib.hid hs; have HAL := Lib.hid hal
    clear hs hal
    by_cases hgo : k < nQ
    · have hkQ : k < Q.length := by rw [HNQ.out]; exact hgo
      have HKQ : Hid (k < nQ) := Lib.hid hgo
      obtain ⟨bd, rfl⟩ : ∃ bd, b = some bd := by
        obtain ⟨a', c', e, hc⟩ := HQ.out
        obtain ⟨rfl, _, _⟩ := Value.slice.inj e
        obtain ⟨ad, e, _⟩ := hc k hkQ
        exact ⟨ad, e⟩
      have HQX : Hid (∀ W, Below w.heap.size w W → W.cell? (bd.add (k * 2)) = some (.int .i64 Q[k].1) ∧ W.cell? ⟨(bd.add (k * 2)).block, (bd.add (k * 2)).off + 1, none⟩ = some (.int .i64 Q[k].2)) := Lib.hid fun W hW => ⟨elts_at HQ.out hW hkQ 0 _ rfl, by rw [← two_cell]; exact elts_at HQ.out hW hkQ 1 _ rfl⟩
      have i0 : (0 : Int) ≤ (k : Int) := by omega
      have i1 : (k : Int) < (nQ : Int) := by omega
      have cM := most_any HS.out.r
      have cT := top_any HS.out.h
      match A, HS, HAL, cT with
      | [], HS, HAL, cT =>
        obtain rfl := none_most HS.out.perm
        unfold topV topOf itV at cT
        go_wp2_with fail
        refine cM.mono ?_
        rintro e w1 ⟨rfl, rfl⟩
        unfold mostL someL
        clear cM
        go_wp2_with fail
        refine cT.mono ?_
        rintro e w2 ⟨rfl, hg2⟩
        obtain ⟨M1, hM1⟩ : ∃ M1, w2.heap.size = M1 := ⟨_, rfl⟩
        have hg3 : Grown w1 (w2.alloc (.cells #[.int .i64 0, .int .i64 0] 32)) := hg2.alloc _
        have HS3 := Lib.hid (HS.out.grown hg3.below)
        have hbx := BoxI.new w2 0 0
        rw [hM1] at hbx
        obtain ⟨t0, t1, _, _⟩ := hbx.cells
        obtain ⟨x0, x1⟩ := HQX.out _ HS3.out.bel
        have HBX := Lib.hid hbx
        clear cT hg2 hg3 hbx
        by_cases hmk : 0 ≤ Q[k].2
        · go_wp2_with fail
          obtain ⟨w3, hw3⟩ : ∃ w3, w2.alloc (.cells #[.int .i64 0, .int .i64 0] 32) = w3 := ⟨_, rfl⟩
          rw [hw3] at HS3 ⊢
          clear hw3 t0 t1 HBX x0 x1
          have cP := push_any bet_of Q[k] HS3.out.h HS3.out.o (by have := HAL.out; omega) ⟨hpu0, by have := HKQ.out; omega⟩
          unfold itV at cP
          go_wp2_with fail
          refine cP.mono ?_
          rintro e w4 ⟨rfl, u1, A5, hp4, hh4, ho4, hk4, hm4⟩
          have hM4 := HS3.out.first ho4 hh4 hk4 hm4
          have HM4 := Lib.hid hM4
          have hx4 := HQX.out w4 hM4.bel
          obtain ⟨x0, x1⟩ := hx4
          have HP4 := Lib.hid hp4
          have cR := rpush_any Q[k] hM4.r (by rw [← HS3.out.perm.length_eq]; have := HAL.out; omega) ⟨hpu0, by have := HKQ.out; omega⟩
          unfold itV at cR
          clear cP hp4 hh4 ho4 hk4 hm4 hM4
          go_wp2_with fail
          refine cR.mono ?_
          rintro e w5 ⟨rfl, u2, hr5, hk5, hm5⟩
          have hlen := HS3.out.perm.length_eq
          have HS5 : Hid (PlS w K1 K2 (pu + 1) (max pk ((([] : List It).length + 1 : Nat) : Int)) u1 u2 A5 (([] : List It) ++ [Q[k]]) w5) := Lib.hid (HM4.out.second (by rw [hlen]; exact hr5) (HP4.out.trans (HS3.out.perm.append_right _)) hk5 hm5)
          obtain ⟨qu, hqu⟩ : ∃ qu, pu + 1 = qu := ⟨_, rfl⟩
          obtain ⟨qk, hqk⟩ : ∃ qk, max pk ((([] : List It).length + 1 : Nat) : Int) = qk := ⟨_, rfl⟩
          obtain ⟨L5, hL5⟩ : ∃ L5, ([] : List It) ++ [Q[k]] = L5 := ⟨_, rfl⟩
          rw [hqu, hqk, hL5] at HS5
          have hq0 : 0 ≤ qu := by omega
          have hq1 : qu ≤ k + 1 := by omega
          have HA5 : Hid (A5.length ≤ nF + (k + 1)) := Lib.hid (by have h1 := HP4.out.length_eq; have h2 := HAL.out; rw [List.length_append, List.length_singleton] at h1; omega)
          clear cR hr5 hk5 hm5 hlen hqk hL5 x0 x1 hqu
          obtain ⟨m5, hm5⟩ : ∃ m5, L5.length = m5 := ⟨_, rfl⟩
          have hA5 : A5.length = m5 := by rw [HS5.out.perm.length_eq, hm5]
          have hm6 : m5 ≤ 100000 := by rw [← hm5]; exact HS5.out.r.few
          obtain ⟨r0, r1, r2⟩ := HS5.out.r.cells
          obtain ⟨a5, cap5, hu5, hc5⟩ := HS5.out.r.row.form
          rw [hm5] at hu5
          subst hu5
          have kL := fun m => hlen_any (HS5.out.h.drewN m)
          have kP := fun m => hpushes_any (HS5.out.h.drewN m)
          have kK := fun m => hpeak_any (HS5.out.h.drewN m)
          rw [hA5] at kL
          have HA6 : Hid (A5.length ≤ nF + (k + 1)) := Lib.hid HA5.out
          clear hm5 hA5 hc5
          go_wp2_with fail
          refine wp_region_quiet_lit (by kernel_rfl) (by kernel_rfl) ?_
          repeat (first | go_big_quiet_skip | quiet_step (first | (go_at_call 15; exact Calls.quiet_of_same (kL _)) | (go_at_call 16; exact Calls.quiet_of_same (kP _)) | (go_at_call 17; exact Calls.quiet_of_same (kK _))))
          refine wpQuiet_nil ?_
          intro _ hw5
          obtain ⟨nq, hw6⟩ := hw5
          subst hw6
          clear kL kP kK r0 r1 r2
          go_wp2
          go_roundw
          case rel => exact ⟨k + 1, u1, _, A5, L5, qu, qk, by simp, by omega, hq0, by push_cast; omega, HA6.out, HS5.out.drewN nq⟩
          case measure => simp [intOf]; omega
        · have cP := pop_none HS3.out.h
          unfold topV topOf itV at cP
          go_wp2_with fail
          refine cP.mono ?_
          rintro e w4 ⟨rfl, hp4, hb4⟩
          obtain ⟨M2, hM2⟩ : ∃ M2, w4.heap.size = M2 := ⟨_, rfl⟩
          have hb5 := hb4.alloc hb4.size (.cells #[.int .i64 0, .int .i64 0] 32)
          have hby := BoxI.new w4 0 0
          rw [hM2] at hby
          obtain ⟨y0, y1, _, _⟩ := hby.cells
          have HS5 := Lib.hid (HS3.out.grown hb5)
          obtain ⟨qu, hqu⟩ : ∃ qu, pu = qu := ⟨_, rfl⟩
          obtain ⟨qk, hqk⟩ : ∃ qk, pk = qk := ⟨_, rfl⟩
          obtain ⟨u1, hu1⟩ : ∃ u1, v1 = u1 := ⟨_, rfl⟩
          obtain ⟨u2, hu2⟩ : ∃ u2, v2 = u2 := ⟨_, rfl⟩
          obtain ⟨A5, hA5'⟩ : ∃ A5 : List It, [] = A5 := ⟨_, rfl⟩
          obtain ⟨L5, hL5⟩ : ∃ L5 : List It, [] = L5 := ⟨_, rfl⟩
          rw [hqu, hqk, hu1, hu2] at HS5
          have HS5 : Hid (PlS w K1 K2 qu qk u1 u2 A5 L5 (w4.alloc (.cells #[.int .i64 0, .int .i64 0] 32))) := Lib.hid (by rw [← hA5', ← hL5]; exact HS5.out)
          have hq0 : 0 ≤ qu := by omega
          have hq1 : qu ≤ k + 1 := by omega
          have HA5 : Hid (A5.length ≤ nF + (k + 1)) := Lib.hid (by rw [← hA5']; simp)
          clear cP hp4 hb4 hb5 hby hqu hqk hu1 hu2 hA5' hL5 x0 x1 t0 t1
          go_wp2_with fail
          obtain ⟨w5, hw5⟩ : ∃ w5, w4.alloc (.cells #[.int .i64 0, .int .i64 0] 32) = w5 := ⟨_, rfl⟩
          rw [hw5] at HS5 ⊢
          clear hw5
          obtain ⟨m5, hm5⟩ : ∃ m5, L5.length = m5 := ⟨_, rfl⟩
          have hA5 : A5.length = m5 := by rw [HS5.out.perm.length_eq, hm5]
          have hm6 : m5 ≤ 100000 := by rw [← hm5]; exact HS5.out.r.few
          obtain ⟨r0, r1, r2⟩ := HS5.out.r.cells
          obtain ⟨a5, cap5, hu5, hc5⟩ := HS5.out.r.row.form
          rw [hm5] at hu5
          subst hu5
          have kL := fun m => hlen_any (HS5.out.h.drewN m)
          have kP := fun m => hpushes_any (HS5.out.h.drewN m)
          have kK := fun m => hpeak_any (HS5.out.h.drewN m)
          rw [hA5] at kL
          have HA6 : Hid (A5.length ≤ nF + (k + 1)) := Lib.hid HA5.out
          clear hm5 hA5 hc5
          go_wp2_with fail
          refine wp_region_quiet_lit (by kernel_rfl) (by kernel_rfl) ?_
          repeat (first | go_big_quiet_skip | quiet_step (first | (go_at_call 15; exact Calls.quiet_of_same (kL _)) | (go_at_call 16; exact Calls.quiet_of_same (kP _)) | (go_at_call 17; exact Calls.quiet_of_same (kK _))))
          refine wpQuiet_nil ?_
          intro _ hw5
          obtain ⟨nq, hw6⟩ := hw5
          subst hw6
          clear kL kP kK r0 r1 r2
          go_wp2
          go_roundw
          case rel => exact ⟨k + 1, u1, _, A5, L5, qu, qk, by simp, by omega, hq0, by push_cast; omega, HA6.out, HS5.out.drewN nq⟩
          case measure => simp [intOf]; omega
      | a1 :: t, HS, HAL, cT =>
        obtain ⟨hm1, hm2, hin, her⟩ := top_most HS.out.o HS.out.perm
        rw [hm1, hm2] at cM
        unfold topV topOf itV at cT
        have HIN := Lib.hid hin; have HER := Lib.hid her
        clear hm1 hm2 hin her
        go_wp2_with fail
        refine cM.mono ?_
        rintro e w1 ⟨rfl, rfl⟩
        clear cM
        go_wp2_with fail
        refine cT.mono ?_
        rintro e w2 ⟨rfl, hg2⟩
        obtain ⟨M1, hM1⟩ : ∃ M1, w2.heap.size = M1 := ⟨_, rfl⟩
        obtain ⟨w3, hw3⟩ : ∃ w3, w2.alloc (.cells #[.int .i64 a1.1, .int .i64 a1.2] 32) = w3 := ⟨_, rfl⟩
        have hg3 : Grown w1 w3 := by rw [← hw3]; exact hg2.alloc _
        have HS3 := Lib.hid (HS.out.grown hg3.below)
        have hbx := BoxI.new w2 a1.1 a1.2
        rw [hw3, hM1] at hbx
        obtain ⟨t0, t1, _, _⟩ := hbx.cells
        have HBX := Lib.hid hbx
        have HNM : Hid (¬ mine K1 v1 M1 ∧ ¬ mine K2 v2 M1) := Lib.hid ⟨fun h => by have := (HS.out.h.grown hg2).in' M1 h; omega, fun h => by have := (HS.out.r.below hg2.below).in' M1 h; omega⟩
        obtain ⟨x0, x1⟩ := HQX.out _ HS3.out.bel
        clear cT hg2 hg3 hbx
        by_cases hmk : 0 ≤ Q[k].2
        · go_wp2_with fail
          clear hw3 t0 t1 HBX HNM
          have cP := push_any bet_of Q[k] HS3.out.h HS3.out.o (by have := HAL.out; omega) ⟨hpu0, by have := HKQ.out; omega⟩
          unfold itV at cP
          go_wp2_with fail
          refine cP.mono ?_
          rintro e w4 ⟨rfl, u1, A5, hp4, hh4, ho4, hk4, hm4⟩
          have hM4 := HS3.out.first ho4 hh4 hk4 hm4
          have HM4 := Lib.hid hM4
          have hx4 := HQX.out w4 hM4.bel
          obtain ⟨x0, x1⟩ := hx4
          have HP4 := Lib.hid hp4
          have cR := rpush_any Q[k] hM4.r (by rw [← HS3.out.perm.length_eq]; have := HAL.out; omega) ⟨hpu0, by have := HKQ.out; omega⟩
          unfold itV at cR
          clear cP hp4 hh4 ho4 hk4 hm4 hM4
          go_wp2_with fail
          refine cR.mono ?_
          rintro e w5 ⟨rfl, u2, hr5, hk5, hm5⟩
          have hlen := HS3.out.perm.length_eq
          have HS5 : Hid (PlS w K1 K2 (pu + 1) (max pk (((a1 :: t).length + 1 : Nat) : Int)) u1 u2 A5 (L ++ [Q[k]]) w5) := Lib.hid (HM4.out.second (by rw [hlen]; exact hr5) (HP4.out.trans (HS3.out.perm.append_right _)) hk5 hm5)
          obtain ⟨qu, hqu⟩ : ∃ qu, pu + 1 = qu := ⟨_, rfl⟩
          obtain ⟨qk, hqk⟩ : ∃ qk, max pk (((a1 :: t).length + 1 : Nat) : Int) = qk := ⟨_, rfl⟩
          obtain ⟨L5, hL5⟩ : ∃ L5, L ++ [Q[k]] = L5 := ⟨_, rfl⟩
          rw [hqu, hqk, hL5] at HS5
          have hq0 : 0 ≤ qu := by omega
          have hq1 : qu ≤ k + 1 := by omega
          have HA5 : Hid (A5.length ≤ nF + (k + 1)) := Lib.hid (by have h1 := HP4.out.length_eq; have h2 := HAL.out; rw [List.length_append, List.length_singleton] at h1; omega)
          clear cR hr5 hk5 hm5 hlen hqk hL5 x0 x1 hqu
          obtain ⟨m5, hm5⟩ : ∃ m5, L5.length = m5 := ⟨_, rfl⟩
          have hA5 : A5.length = m5 := by rw [HS5.out.perm.length_eq, hm5]
          have hm6 : m5 ≤ 100000 := by rw [← hm5]; exact HS5.out.r.few
          obtain ⟨r0, r1, r2⟩ := HS5.out.r.cells
          obtain ⟨a5, cap5, hu5, hc5⟩ := HS5.out.r.row.form
          rw [hm5] at hu5
          subst hu5
          have kL := fun m => hlen_any (HS5.out.h.drewN m)
          have kP := fun m => hpushes_any (HS5.out.h.drewN m)
          have kK := fun m => hpeak_any (HS5.out.h.drewN m)
          rw [hA5] at kL
          have HA6 : Hid (A5.length ≤ nF + (k + 1)) := Lib.hid HA5.out
          clear hm5 hA5 hc5
          go_wp2_with fail
          refine wp_region_quiet_lit (by kernel_rfl) (by kernel_rfl) ?_
          repeat (first | go_big_quiet_skip | quiet_step (first | (go_at_call 15; exact Calls.quiet_of_same (kL _)) | (go_at_call 16; exact Calls.quiet_of_same (kP _)) | (go_at_call 17; exact Calls.quiet_of_same (kK _))))
          refine wpQuiet_nil ?_
          intro _ hw5
          obtain ⟨nq, hw6⟩ := hw5
          subst hw6
          clear kL kP kK r0 r1 r2
          go_wp2
          go_roundw
          case rel => exact ⟨k + 1, u1, _, A5, L5, qu, qk, by simp, by omega, hq0, by push_cast; omega, HA6.out, HS5.out.drewN nq⟩
          case measure => simp [intOf]; omega
        · have cP := pop_some bet_of HS3.out.h HS3.out.o
          go_wp2_with fail
          refine cP.mono ?_
          rintro e w4 ⟨rfl, u1, A5, hp4, hh4, ho4, hk4, hv4⟩
          have hM4 := HS3.out.first ho4 hh4 hk4 (.inl hv4)
          obtain ⟨M2, hM2⟩ : ∃ M2, w4.heap.size = M2 := ⟨_, rfl⟩
          obtain ⟨w5, hw5⟩ : ∃ w5, w4.alloc (.cells #[.int .i64 a1.1, .int .i64 a1.2] 32) = w5 := ⟨_, rfl⟩
          have hg5 : Grown w4 w5 := by rw [← hw5]; exact alloc_grown _ _
          have HM5 := Lib.hid (hM4.grown hg5.below)
          have hby := BoxI.new w4 a1.1 a1.2
          rw [hw5, hM2] at hby
          obtain ⟨y0, y1, _, _⟩ := hby.cells
          obtain ⟨s0, s1, _, _⟩ := ((HBX.out.kept hk4 HNM.out.1).grown hg5).cells
          have cD := drop_any a1 HM5.out.r HM5.out.bel.size
          unfold topV itV
          unfold DropRet itV at cD
          rw [decide_eq_true HIN.out] at cD
          have HP4 := Lib.hid hp4
          have HAL4 : Hid (A5.length ≤ nF + (k + 1)) := Lib.hid (by have h1 := hp4.length_eq; have h2 := HAL.out; simp only [List.length_cons] at h2; omega)
          clear cP hp4 hh4 ho4 hk4 hv4 hM4 hg5 hby x0 x1 t0 t1 hw3
          go_wp2_with fail
          refine cD.mono ?_
          rintro e w6 ⟨rfl, u2, hr6, hk6, hm6⟩
          have HS5' := Lib.hid (HM5.out.second hr6 (HP4.out.trans HER.out.symm) hk6 hm6)
          obtain ⟨qu, hqu⟩ : ∃ qu, pu = qu := ⟨_, rfl⟩
          obtain ⟨qk, hqk⟩ : ∃ qk, pk = qk := ⟨_, rfl⟩
          obtain ⟨L5, hL5⟩ : ∃ L5 : List It, L.erase a1 = L5 := ⟨_, rfl⟩
          have HS5 := HS5'
          rw [hqu, hqk, hL5] at HS5
          have hq0 : 0 ≤ qu := by omega
          have hq1 : qu ≤ k + 1 := by omega
          have HA5 := HAL4
          clear cD hr6 hk6 hm6 hqu hqk hL5 HS5' s0 s1 y0 y1
          go_wp2_with fail
          obtain ⟨m5, hm5⟩ : ∃ m5, L5.length = m5 := ⟨_, rfl⟩
          have hA5 : A5.length = m5 := by rw [HS5.out.perm.length_eq, hm5]
          have hm6 : m5 ≤ 100000 := by rw [← hm5]; exact HS5.out.r.few
          obtain ⟨r0, r1, r2⟩ := HS5.out.r.cells
          obtain ⟨a5, cap5, hu5, hc5⟩ := HS5.out.r.row.form
          rw [hm5] at hu5
          subst hu5
          have kL := fun m => hlen_any (HS5.out.h.drewN m)
          have kP := fun m => hpushes_any (HS5.out.h.drewN m)
          have kK := fun m => hpeak_any (HS5.out.h.drewN m)
          rw [hA5] at kL
          have HA6 : Hid (A5.length ≤ nF + (k + 1)) := Lib.hid HA5.out
          clear hm5 hA5 hc5
          go_wp2_with fail
          refine wp_region_quiet_lit (by kernel_rfl) (by kernel_rfl) ?_
          repeat (first | go_big_quiet_skip | quiet_step (first | (go_at_call 15; exact Calls.quiet_of_same (kL _)) | (go_at_call 16; exact Calls.quiet_of_same (kP _)) | (go_at_call 17; exact Calls.quiet_of_same (kK _))))
          refine wpQuiet_nil ?_
          intro _ hw5
          obtain ⟨nq, hw6⟩ := hw5
          subst hw6
          clear kL kP kK r0 r1 r2
          go_wp2
          go_roundw
          case rel => exact ⟨k + 1, u1, _, A5, L5, qu, qk, by simp, by omega, hq0, by push_cast; omega, HA6.out, HS5.out.drewN nq⟩
          case measure => simp [intOf]; omega
    · obtain rfl : k = nQ := by omega
      have hi : ¬ (k : Int) < (k : Int) := by omega
      go_wp2
      go_ret
      exact ⟨rfl, HS.out.bel⟩
end Go.Proofs.Ytnonkhnajloloaa
