/- HeapSame: items that are pushed one by one come out by the same numbers as of a heap that had them. -/
import Derived.Test.YtnonkhnajloloaaHeapAwW
import Derived.Test.YtnonkhnajloloaaItArg
namespace Go.Proofs.Ytnonkhnajloloaa
open Go.RowKit Go.Shelf
open Go.Sort (grow grow_empty grow_grow alloc_eq_grow heap_grow_old)
variable {w w' : World} {B K : Nat} {fv v : Value} {A : List It} {pu pk : Int} {bt : It → It → Bool}

abbrev sameV : Value := fnV 21 #[]
set_option maxRecDepth 100000 in
theorem hp_made (fv : Value) (w : World) {b : Nat} (hb : b ≤ w.heap.size) : Hp (w.alloc (.cells #[fv, .slice none 0 0, .int .i64 0, .int .i64 0] 50)) b w.heap.size fv (.slice none 0 0) [] 0 0 := (hp_new fv w).mono hb
set_option maxRecDepth 100000 in
theorem Hp.lt (h : Hp w B K fv v A pu pk) : ∀ k, mine K v k → B ≤ k ∧ k < w.heap.size := by
  rintro k (rfl | e)
  · exact ⟨h.base, h.ltK⟩
  · exact h.row.lt k e.symm
set_option maxRecDepth 100000 in
/-- The greatest of two heaps whose numbers are the same. -/
theorem tops_same {a b : It} {t s : List It} (h1 : HeapFrom btI (a :: t) 0) (h2 : HeapFrom btI (b :: s) 0) (h : ((a :: t).map (·.1)).Perm ((b :: s).map (·.1))) : a.1 = b.1 ∧ (t.map (·.1)).Perm (s.map (·.1)) := by
  have hb1 : ∀ y ∈ a :: t, y.1 ≤ a.1 := fun y hy => by
    have := heap_best btI_ranks h1 (by simp) y hy
    simp only [btI, decide_eq_false_iff_not, List.getElem_cons_zero] at this
    omega
  have hb2 : ∀ y ∈ b :: s, y.1 ≤ b.1 := fun y hy => by
    have := heap_best btI_ranks h2 (by simp) y hy
    simp only [btI, decide_eq_false_iff_not, List.getElem_cons_zero] at this
    omega
  have e1 : a.1 ∈ (b :: s).map (·.1) := h.mem_iff.1 (by simp)
  have e2 : b.1 ∈ (a :: t).map (·.1) := h.mem_iff.2 (by simp)
  obtain ⟨y, hy, e⟩ := List.mem_map.1 e1
  obtain ⟨z, hz, e'⟩ := List.mem_map.1 e2
  have h3 := hb2 y hy
  have h4 := hb1 z hz
  have h5 : a.1 = b.1 := by omega
  refine ⟨h5, ?_⟩
  rw [List.map_cons, List.map_cons, h5] at h
  exact h.cons_inv
def SameRel1 (L : List It) (w : World) (K : Nat) (i : Value) (wr : World) : Prop :=
  ∃ (k : Nat) (v : Value) (A : List It), i = .int .i64 (k : Int) ∧ k ≤ L.length ∧ A.Perm (L.take k) ∧ HeapFrom btI A 0 ∧ Hp wr w.heap.size K sameV v A (k : Int) (k : Int) ∧ Below w.heap.size w wr
/-- Two heaps side by side. -/
structure Pr (w : World) (C K1 K2 : Nat) (p1 p2 q1 q2 : Int) (v1 v2 : Value) (A1 A2 : List It) (W : World) : Prop where
  h1 : Hp W w.heap.size K1 sameV v1 A1 p1 p2
  h2 : Hp W w.heap.size K2 ofV v2 A2 q1 q2
  o1 : HeapFrom btI A1 0
  o2 : HeapFrom btI A2 0
  lo : ∀ k, mine K1 v1 k → k < C
  hi : ∀ k, mine K2 v2 k → C ≤ k
  bel : Below w.heap.size w W
variable {C K1 K2 : Nat} {p1 p2 q1 q2 : Int} {v1 v2 u : Value} {A1 A2 A' : List It} {W V : World}
set_option maxRecDepth 100000 in
theorem Pr.first (h : Pr w C K1 K2 p1 p2 q1 q2 v1 v2 A1 A2 W) (hp : Hp V w.heap.size K1 sameV u A' p1 p2) (ho : HeapFrom btI A' 0) (hk : Kept (mine K1 v1) W V) (hu : u.ownBlock = v1.ownBlock) : Pr w C K1 K2 p1 p2 q1 q2 u v2 A' A2 V :=
  ⟨hp, h.h2.kept fun k hlt hm => hk.block k hlt fun e => by have := h.lo k e; have := h.hi k hm; omega, ho, h.o2, fun k hm => h.lo k (by unfold mine at hm ⊢; rwa [hu] at hm), h.hi, h.bel.trans (hk.below h.bel.size fun k hm => (h.h1.lt k hm).1)⟩
set_option maxRecDepth 100000 in
theorem Pr.second (h : Pr w C K1 K2 p1 p2 q1 q2 v1 v2 A1 A2 W) (hp : Hp V w.heap.size K2 ofV u A' q1 q2) (ho : HeapFrom btI A' 0) (hk : Kept (mine K2 v2) W V) (hu : u.ownBlock = v2.ownBlock) : Pr w C K1 K2 p1 p2 q1 q2 v1 u A1 A' V :=
  ⟨h.h1.kept fun k hlt hm => hk.block k hlt fun e => by have := h.lo k hm; have := h.hi k e; omega, hp, h.o1, ho, h.lo, fun k hm => h.hi k (by unfold mine at hm ⊢; rwa [hu] at hm), h.bel.trans (hk.below h.bel.size fun k hm => (h.h2.lt k hm).1)⟩
set_option maxRecDepth 100000 in
theorem Pr.grown (h : Pr w C K1 K2 p1 p2 q1 q2 v1 v2 A1 A2 W) (k : Below W.heap.size W V) : Pr w C K1 K2 p1 p2 q1 q2 v1 v2 A1 A2 V :=
  ⟨h.h1.below k, h.h2.below k, h.o1, h.o2, h.lo, h.hi, h.bel.trans (k.mono h.bel.size)⟩
def SameRel2 (n : Nat) (w : World) (C K1 K2 : Nat) (p1 p2 q1 q2 : Int) (i : Value) (wr : World) : Prop :=
  ∃ (k : Nat) (v1 v2 : Value) (A1 A2 : List It), i = .int .i64 (k : Int) ∧ k ≤ n ∧ A1.length + k = n ∧ (A1.map (·.1)).Perm (A2.map (·.1)) ∧ Pr w C K1 K2 p1 p2 q1 q2 v1 v2 A1 A2 wr
set_option maxRecDepth 100000 in
set_option maxHeartbeats 4000000 in
theorem heapSame_walk (x : Value) (w : World) (L : List It) (hx : eltsAt itE w x L) (_ : L.length ≤ maxLen) (_ : FitsIts L) (hnil : nilNone x) (_ : ∀ a n c, x = .slice a n c → n ≤ c) :
    Calls Try.prog 6 #[x] w fun e w' => e = .returned (.bool true) ∧ Below w.heap.size w w' := by
  have HX := Lib.hid hx
  have HNil := Lib.hid hnil
  obtain ⟨a, cap, rfl, hxc⟩ := hx
  clear hxc
  obtain ⟨n, hn⟩ : ∃ n, L.length = n := ⟨_, rfl⟩
  have HN := Lib.hid hn
  rw [hn] at HX HNil ⊢
  have cA := awake_any w
  clear hnil hn
  by_cases hbig : 200 < n
  · have hb : (200 : Int) < (n : Int) := by omega
    go_enter Try.func6, Try.ntmps6
    go_wp2_with fail
    refine cA.mono ?_
    rintro e w1 ⟨rfl, hb1⟩
    have HB1 := Lib.hid hb1
    clear hb1 cA
    go_wp2
    go_ret
    exact ⟨rfl, HB1.out⟩
  · have hb : ¬ (200 : Int) < (n : Int) := by omega
    have hn2 : n ≤ 200 := by omega
    clear hbig
    go_enter Try.func6, Try.ntmps6
    go_wp2_with fail
    refine cA.mono ?_
    rintro e w1 ⟨rfl, hb1⟩
    have cN := hnew_any 21 #[] w1
    obtain ⟨K1, hK1⟩ : ∃ K1, w1.heap.size = K1 := ⟨_, rfl⟩
    have HS : Hid (SameRel1 L w K1 (.int .i64 (0 : Int)) (w1.alloc (.cells #[sameV, .slice none 0 0, .int .i64 0, .int .i64 0] 50))) := Lib.hid ⟨0, _, [], rfl, Nat.zero_le _, by simp, heap_empty btI, by rw [← hK1]; exact hp_made sameV w1 hb1.size, hb1.alloc hb1.size _⟩
    rw [hK1] at cN
    clear hb1 cA
    go_wp2_with fail
    refine cN.mono ?_
    rintro e w2 ⟨rfl, rfl⟩
    clear cN hK1
    go_wp2
    go_loopw [4] (fun i wr => SameRel1 L w K1 i wr) (fun i _ => n - (intOf i).toNat)
    case atStart => exact HS.out
    case round =>
      clear HS
      obtain ⟨k, v, A, rfl, hk, hp, hh, ho, hb⟩ := hrel
      rw [HN.out] at hk
      have HP := Lib.hid hp; have HH := Lib.hid hh; have HO := Lib.hid ho; have HB := Lib.hid hb
      clear hp hh ho hb
      by_cases hgo : k < n
      · have hkL : k < L.length := by rw [HN.out]; exact hgo
        obtain ⟨ad, rfl⟩ : ∃ ad, a = some ad := by
          obtain ⟨a', c', e, hc⟩ := HX.out
          obtain ⟨rfl, _, _⟩ := Value.slice.inj e
          obtain ⟨ad, e, _⟩ := hc k hkL
          exact ⟨ad, e⟩
        have hel := elts_at HX.out HB.out hkL
        have x0 : wr.cell? (ad.add (k * 2)) = some (.int .i64 L[k].1) := hel 0 _ rfl
        have x1 : wr.cell? ⟨(ad.add (k * 2)).block, (ad.add (k * 2)).off + 1, none⟩ = some (.int .i64 L[k].2) := by rw [← two_cell]; exact hel 1 _ rfl
        have i0 : (0 : Int) ≤ (k : Int) := by omega
        have i1 : (k : Int) < (n : Int) := by omega
        have HAL : Hid (A.length = k) := Lib.hid (by rw [HP.out.length_eq, List.length_take, HN.out]; omega)
        have cP := push_any bet_same L[k] HO.out HH.out (by rw [HAL.out]; omega) ⟨by omega, by omega⟩
        have HT : Hid (L.take (k + 1) = L.take k ++ [L[k]]) := Lib.hid (List.take_succ_eq_append_getElem hkL)
        unfold itV at cP
        clear hel
        go_wp2_with fail
        refine cP.mono ?_
        rintro e w3 ⟨rfl, v', A', hp3, hh3, ho3, hk3, hm3⟩
        have HP3 := Lib.hid hp3; have HH3 := Lib.hid hh3; have HO3 := Lib.hid ho3; have HK3 := Lib.hid hk3
        clear hp3 hh3 ho3 hk3 hm3 cP x0 x1
        go_wp2
        go_roundw
        case rel =>
          refine ⟨k + 1, v', A', by simp, by rw [HN.out]; omega, by rw [HT.out]; exact HP3.out.trans (HP.out.append_right _), HH3.out, ?_, HB.out.trans (HK3.out.below HB.out.size fun i hi => (HO.out.lt i hi).1)⟩
          have h := HO3.out
          rw [HAL.out] at h
          rw [show max (k : Int) ((k + 1 : Nat) : Int) = ((k + 1 : Nat) : Int) by omega] at h
          exact h
        case measure => simp [intOf]; omega
      · obtain rfl : k = n := by omega
        have hi : ¬ (k : Int) < (k : Int) := by omega
        have HPL : Hid (A.Perm L) := Lib.hid (by have := HP.out; rwa [List.take_of_length_le (by rw [HN.out]; exact Nat.le_refl _)] at this)
        have hAl : A.length = k := by rw [HPL.out.length_eq, HN.out]
        have cO := mk_any (.slice a k cap) L wr (HX.out.below HB.out (Nat.le_refl _)) HNil.out (by rw [HN.out]; omega)
        go_wp2_with fail
        refine cO.mono ?_
        rintro e w3 ⟨K2, v2, A2, rfl, hp3, hh3, ho3, hb3⟩
        have hA2 : A2.length = k := by rw [hp3.length_eq, HN.out]
        have hP : Pr w wr.heap.size K1 K2 k k 0 (L.length : Int) v v2 A A2 w3 :=
          ⟨HO.out.below hb3, ho3.mono HB.out.size, HH.out, hh3, fun i hi => (HO.out.lt i hi).2, fun i hi => (ho3.lt i hi).1, HB.out.trans (hb3.mono HB.out.size)⟩
        have HPR := Lib.hid hP
        have HS2 : Hid (SameRel2 k w wr.heap.size K1 K2 k k 0 (L.length : Int) (.int .i64 (0 : Int)) w3) := Lib.hid ⟨0, v, v2, A, A2, rfl, Nat.zero_le _, by rw [hAl]; rfl, (HPL.out.trans hp3.symm).map _, hP⟩
        have k1 := hlen_any hP.h1
        have k2 := hpushes_any hP.h1
        have k3 := hpeak_any hP.h1
        have k4 := hlen_any hP.h2
        have k5 := hpushes_any hP.h2
        rw [hAl] at k1
        rw [hA2] at k4
        obtain ⟨C, hC⟩ : ∃ C, wr.heap.size = C := ⟨_, rfl⟩
        rw [hC] at HS2
        clear cO hp3 hh3 ho3 hb3 hA2 hP hAl hC
        go_wp2_with fail
        refine k1.mono ?_
        rintro e W ⟨rfl, rfl⟩
        go_wp2_with fail
        refine k2.mono ?_
        rintro e W ⟨rfl, rfl⟩
        go_wp2_with fail
        refine k3.mono ?_
        rintro e W ⟨rfl, rfl⟩
        go_wp2_with fail
        refine k4.mono ?_
        rintro e W ⟨rfl, rfl⟩
        go_wp2_with fail
        refine k5.mono ?_
        rintro e W ⟨rfl, rfl⟩
        clear k1 k2 k3 k4 k5 HPR
        go_wp2
        go_loopw [6] (fun i wr => SameRel2 k w C K1 K2 k k 0 (L.length : Int) i wr) (fun i _ => k - (intOf i).toNat)
        case atStart => exact HS2.out
        case round =>
          clear HS2
          obtain ⟨j, v1, v2, A1, A2, rfl, hj, hl, hmap, hpr⟩ := hrel
          have HL := Lib.hid hl; have HMP := Lib.hid hmap; have HPR := Lib.hid hpr
          clear hl hmap hpr
          by_cases hgo : j < k
          · have HA1 : Hid (A1.length ≠ 0) := Lib.hid (by have := HL.out; omega)
            have HA2 : Hid (A2.length = A1.length) := Lib.hid (by have := HMP.out.length_eq; simpa using this.symm)
            match A1, A2, HA1.out, HA2.out with
            | a1 :: t, b1 :: s, _, _ =>
              have h1 := HPR.out.h1
              have cP := pop_some bet_same h1 HPR.out.o1
              have HT := Lib.hid (tops_same HPR.out.o1 HPR.out.o2 HMP.out)
              clear h1
              go_wp2_with fail
              refine cP.mono ?_
              rintro e w4 ⟨rfl, v1', A1', hp4, hh4, ho4, hk4, hv4⟩
              have hpr4 := HPR.out.first ho4 hh4 hk4 hv4
              obtain ⟨M1, hM1⟩ : ∃ M1, w4.heap.size = M1 := ⟨_, rfl⟩
              obtain ⟨w5, hw5⟩ : ∃ w5, w4.alloc (.cells #[.int .i64 a1.1, .int .i64 a1.2] 32) = w5 := ⟨_, rfl⟩
              have hbx := BoxI.new w4 a1.1 a1.2
              rw [hw5, hM1] at hbx
              have hnm : ¬ mine K2 v2 M1 := fun h => by have := (hpr4.h2.lt M1 h).2; omega
              have hpr5 := hpr4.grown (V := w5) (by rw [← hw5]; exact (Below.refl _ w4).alloc (Nat.le_refl _) _)
              have HPR5 := Lib.hid hpr5; have HBX := Lib.hid hbx; have HNM := Lib.hid hnm; have HP4 := Lib.hid hp4
              have cQ := pop_some bet_of hpr5.h2 hpr5.o2
              unfold topV itV
              clear cP hp4 hh4 ho4 hk4 hv4 hpr4 hpr5 hbx hnm
              go_wp2_with fail
              refine cQ.mono ?_
              rintro e w6 ⟨rfl, v2', A2', hp6, hh6, ho6, hk6, hv6⟩
              have hpr6 := HPR5.out.second ho6 hh6 hk6 hv6
              obtain ⟨M2, hM2⟩ : ∃ M2, w6.heap.size = M2 := ⟨_, rfl⟩
              obtain ⟨w7, hw7⟩ : ∃ w7, w6.alloc (.cells #[.int .i64 b1.1, .int .i64 b1.2] 32) = w7 := ⟨_, rfl⟩
              have hb7 : Below w6.heap.size w6 w7 := by rw [← hw7]; exact (Below.refl _ w6).alloc (Nat.le_refl _) _
              have HPR7 := Lib.hid (hpr6.grown hb7)
              have hbx := BoxI.new w6 b1.1 b1.2
              rw [hw7, hM2] at hbx
              obtain ⟨m2, _, _, _⟩ := hbx.cells
              obtain ⟨m1, _, _, _⟩ := ((HBX.out.kept hk6 HNM.out).grown (w' := w7) (by rw [← hw7]; exact alloc_grown _ _)).cells
              rw [← HT.out.1] at m2
              have HMP' : Hid ((A1'.map (·.1)).Perm (A2'.map (·.1))) := Lib.hid (((HP4.out.map _).trans HT.out.2).trans (hp6.map _).symm)
              have HL1 : Hid (A1'.length + (j + 1) = k) := Lib.hid (by have h1 := HP4.out.length_eq; have h2 := HL.out; simp only [List.length_cons] at h2; omega)
              unfold topV itV
              clear cQ hp6 hh6 ho6 hk6 hv6 hpr6 hb7 hbx
              go_wp2
              go_roundw
              case rel => exact ⟨j + 1, v1', v2', A1', A2', by simp, by omega, HL1.out, HMP'.out, HPR7.out⟩
              case measure => simp [intOf]; omega
          · obtain rfl : j = k := by omega
            have hA1 : A1 = [] := List.eq_nil_of_length_eq_zero (by have := HL.out; omega)
            subst hA1
            have cP := pop_none HPR.out.h1
            unfold topV topOf itV at cP
            have hi : ¬ (j : Int) < (j : Int) := by omega
            go_wp2_with fail
            refine cP.mono ?_
            rintro e w4 ⟨rfl, hp4, hb4⟩
            have k1 := hlen_any (hp4.below ((Below.refl _ w4).alloc (Nat.le_refl _) (.cells #[.int .i64 0, .int .i64 0] 32)))
            have HB4 := Lib.hid (HPR.out.bel.trans ((hb4.alloc hb4.size (.cells #[.int .i64 0, .int .i64 0] 32)).mono HPR.out.bel.size))
            clear cP hp4 hb4
            go_wp2_with fail
            refine k1.mono ?_
            rintro e W ⟨rfl, rfl⟩
            clear k1
            go_wp2
            go_ret
            exact ⟨rfl, HB4.out⟩
end Go.Proofs.Ytnonkhnajloloaa
