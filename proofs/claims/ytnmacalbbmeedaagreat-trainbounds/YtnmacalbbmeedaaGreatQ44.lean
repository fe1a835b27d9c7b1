/- Texts in one: TrB, TrW, NvN, NvM, TrO. -/
import Derived.Test.YtnmacalbbmeedaaGreatQ42
import Derived.Test.YtnmacalbbmeedaaGreatQ41
import Derived.Test.YtnmacalbbmeedaaGreatQ04
/- The document's example of train, walked; TrainLearns over what is asked of the program. -/
namespace Go.Proofs.YtnmacalbbmeedaaGreat
open Go.RowKit

def exT : Bag := [(⟨#[97, 98]⟩, 2), (⟨#[97, 98, 99]⟩, 1)]
def tC : ByteArray := ⟨#[99]⟩
set_option maxRecDepth 100000 in
theorem exT_err : errT exT 9 1 9 = 0 := by rfl
set_option maxRecDepth 100000 in
theorem exT_start : startW exT = [[tA, tB], [tA, tB, tC]] := by rfl
set_option maxRecDepth 100000 in
theorem exT_fits : Fits exT := fun p hp => by
  simp only [exT, List.mem_cons, List.not_mem_nil, or_false] at hp
  rcases hp with rfl | rfl <;> refine ⟨?_, ?_, ?_⟩ <;> decide
set_option maxRecDepth 100000 in
theorem exT_j1 : joinT (tA, tB) [tA, tB] = [tAB] := by
  unfold joinT
  rw [if_pos ⟨rfl, rfl⟩, ab_app]
  rfl
set_option maxRecDepth 100000 in
theorem exT_j2 : joinT (tA, tB) [tA, tB, tC] = [tAB, tC] := by
  unfold joinT
  rw [if_pos ⟨rfl, rfl⟩, ab_app]
  rfl
set_option maxRecDepth 100000 in
theorem exT_j3 : ∃ t, joinT (tAB, tC) [tAB, tC] = [t] := by
  unfold joinT
  rw [if_pos ⟨rfl, rfl⟩]
  exact ⟨_, rfl⟩
set_option maxRecDepth 100000 in
theorem exT_c0 (m : Mg) : cntW m [[tA, tB], [tA, tB, tC]] [2, 1] = if m = (tA, tB) then 3 else (if m = (tB, tC) then 1 else 0) := by
  have e : (tA = m.1 ∧ tB = m.2) ↔ m = (tA, tB) := ⟨fun h => Prod.ext h.1.symm h.2.symm, fun h => by rw [h]; exact ⟨rfl, rfl⟩⟩
  have f : (tB = m.1 ∧ tC = m.2) ↔ m = (tB, tC) := ⟨fun h => Prod.ext h.1.symm h.2.symm, fun h => by rw [h]; exact ⟨rfl, rfl⟩⟩
  have k : cntW m [[tA, tB], [tA, tB, tC]] [2, 1] = (((if m = (tA, tB) then 1 else 0 : Nat) : Int)) * 2 + ((((if m = (tA, tB) then 1 else 0) + (if m = (tB, tC) then 1 else 0) : Nat) : Int)) * 1 := by
    simp only [cntW, cntT, e, f]
    simp
  rw [k]
  by_cases h1 : m = (tA, tB)
  · have h2 : ¬ m = (tB, tC) := fun h2 => by
      rw [h1] at h2
      exact ne_ab (Prod.mk.inj h2).1
    rw [if_pos h1, if_neg h2, if_pos h1]
    rfl
  · rw [if_neg h1, if_neg h1]
    by_cases h2 : m = (tB, tC)
    · rw [if_pos h2, if_pos h2]; rfl
    · rw [if_neg h2, if_neg h2]; rfl
set_option maxRecDepth 100000 in
theorem exT_c1 (m : Mg) : cntW m [[tAB], [tAB, tC]] [2, 1] = if m = (tAB, tC) then 1 else 0 := by
  have e : (tAB = m.1 ∧ tC = m.2) ↔ m = (tAB, tC) := ⟨fun h => Prod.ext h.1.symm h.2.symm, fun h => by rw [h]; exact ⟨rfl, rfl⟩⟩
  by_cases h : m = (tAB, tC)
  · simp [cntW, cntT, h]
  · simp [cntW, cntT, e, h]
set_option maxRecDepth 100000 in
theorem exT_c2 (m : Mg) (t u : ByteArray) : cntW m [[t], [u]] [2, 1] = 0 := by simp [cntW, cntT]
set_option maxRecDepth 100000 in
theorem exT_learned : Learned (startW exT) (countsOf exT) 9 1 [(tA, tB), (tAB, tC)] := by
  have hc : countsOf exT = [2, 1] := rfl
  rw [exT_start, hc]
  have r1 : runT [[tA, tB], [tA, tB, tC]] [(tA, tB)] = [[tAB], [tAB, tC]] := by show [joinT (tA, tB) [tA, tB], joinT (tA, tB) [tA, tB, tC]] = _; rw [exT_j1, exT_j2]
  obtain ⟨t, ht⟩ := exT_j3
  have r2 : runT [[tA, tB], [tA, tB, tC]] [(tA, tB), (tAB, tC)] = [[tAB], [t]] := by
    show runT (runT [[tA, tB], [tA, tB, tC]] [(tA, tB)]) [(tAB, tC)] = _
    rw [r1]
    show [joinT (tAB, tC) [tAB], joinT (tAB, tC) [tAB, tC]] = _
    rw [ht]
    rfl
  refine ⟨fun i hi => ?_, by decide, .inr ⟨noM, 0, .inl ⟨rfl, rfl, fun m => by rw [r2]; exact exT_c2 m tAB t⟩, by decide⟩⟩
  match i, hi with
  | 0, _ =>
    refine ⟨3, .inr ⟨by decide, ?_, fun m => ?_⟩, by decide⟩
    · show cntW (tA, tB) [[tA, tB], [tA, tB, tC]] [2, 1] = 3
      rw [exT_c0, if_pos rfl]
    · show cntW m [[tA, tB], [tA, tB, tC]] [2, 1] ≤ 3 ∧ (cntW m [[tA, tB], [tA, tB, tC]] [2, 1] = 3 → m ≠ (tA, tB) → aheadM (tA, tB) m = true)
      rw [exT_c0]
      by_cases h1 : m = (tA, tB)
      · exact ⟨by rw [if_pos h1]; exact Int.le_refl _, fun _ h => absurd h1 h⟩
      · rw [if_neg h1]
        by_cases h2 : m = (tB, tC)
        · rw [if_pos h2]; exact ⟨by decide, fun h => absurd h (by decide)⟩
        · rw [if_neg h2]; exact ⟨by decide, fun h => absurd h (by decide)⟩
  | 1, _ =>
    refine ⟨1, .inr ⟨by decide, ?_, fun m => ?_⟩, by decide⟩
    · show cntW (tAB, tC) (runT [[tA, tB], [tA, tB, tC]] [(tA, tB)]) [2, 1] = 1
      rw [r1, exT_c1, if_pos rfl]
    · show cntW m (runT [[tA, tB], [tA, tB, tC]] [(tA, tB)]) [2, 1] ≤ 1 ∧ (cntW m (runT [[tA, tB], [tA, tB, tC]] [(tA, tB)]) [2, 1] = 1 → m ≠ (tAB, tC) → aheadM (tAB, tC) m = true)
      rw [r1, exT_c1]
      by_cases h1 : m = (tAB, tC)
      · exact ⟨by rw [if_pos h1]; exact Int.le_refl _, fun _ h => absurd h1 h⟩
      · rw [if_neg h1]; exact ⟨by decide, fun h => absurd h (by decide)⟩
  | n + 2, h => simp at h; omega
set_option maxRecDepth 100000 in
theorem exT_word (w : World) : wordsAt (w.alloc (.cells #[.string ⟨#[97, 98]⟩, .int .i64 2, .string ⟨#[97, 98, 99]⟩, .int .i64 1] 56)) (.slice (some ⟨w.heap.size, 0, none⟩) 2 2) exT := by
  have hh := heap_alloc_new w (.cells #[.string ⟨#[97, 98]⟩, .int .i64 2, .string ⟨#[97, 98, 99]⟩, .int .i64 1] 56)
  refine ⟨_, 2, rfl, fun j hj => ⟨_, rfl, (Array.getElem?_eq_some_iff.1 hh).1, ?_, ?_⟩⟩
  · match j, hj with
    | 0, _ => exact (cell_of_row _ _ 0 _ _ (0, 0) hh).trans rfl
    | 1, _ => exact (cell_of_row _ _ 2 _ _ (0, 0) hh).trans rfl
    | n + 2, h => simp [exT] at h; omega
  · match j, hj with
    | 0, _ => exact (cell_of_row _ _ 1 _ _ (0, 0) hh).trans rfl
    | 1, _ => exact (cell_of_row _ _ 3 _ _ (0, 0) hh).trans rfl
    | n + 2, h => simp [exT] at h; omega
set_option maxRecDepth 100000 in
set_option maxHeartbeats 4000000 in
theorem tawake_any (hT : TLearns) (w : World) : Calls Tryz.prog 7 #[] w fun e w' => e = .returned (.bool true) ∧ Below w.heap.size w w' := by
  obtain ⟨w1, hw1⟩ : ∃ w1, w1 = w.alloc (.cells #[.string ⟨#[97, 98]⟩, .int .i64 2, .string ⟨#[97, 98, 99]⟩, .int .i64 1] 56) := ⟨_, rfl⟩
  have HB1 : Hid (Below w.heap.size w w1) := Lib.hid (by rw [hw1]; exact (Below.refl _ w).alloc (Nat.le_refl _) _)
  have cN := hT (.slice (some ⟨w.heap.size, 0, none⟩) 2 2) exT 9 1 9 w1 (by rw [hw1]; exact exT_word w) (by decide) exT_fits (by decide) ⟨by decide, by decide⟩ ⟨by decide, by decide⟩ ⟨by decide, by decide⟩
  have hw1' := hw1.symm
  clear hw1
  go_enter Tryz.func7, Tryz.ntmps7
  go_wp2_with fail
  refine cN.mono ?_
  rintro e w2 ⟨v, ms, ⟨s1, s2, s3, s4, s5, s6⟩, rfl, hv, hb2, _, hl, _⟩
  obtain ⟨hl1, hl2⟩ := hl exT_err
  obtain rfl : ms = [(tA, tB), (tAB, tC)] := learned_uni hl1 exT_learned
  obtain rfl : s2 = 2 := hl2.rnd
  rw [exT_err]
  unfold stV
  simp only
  obtain ⟨w5, hw5⟩ : ∃ w5, w5 = w2.alloc (.cells #[.int .i64 s1, .int .i64 2, .int .i64 s3, .int .i64 s4, .int .i64 s5, .int .i64 s6] 29) := ⟨_, rfl⟩
  obtain ⟨w3, hw3⟩ : ∃ w3, w3 = w5.alloc (.cells #[.string tA, .string tB, .string tAB, .string tC] 42) := ⟨_, rfl⟩
  have hb5 : Below w2.heap.size w2 w5 := by rw [hw5]; exact (Below.refl _ w2).alloc (Nat.le_refl _) _
  have hb35 : Below w5.heap.size w5 w3 := by rw [hw3]; exact (Below.refl _ w5).alloc (Nat.le_refl _) _
  have hb3 : Below w2.heap.size w2 w3 := hb5.trans (hb35.mono hb5.size)
  have hx3 : eltsAt mergeE w3 (.slice (some ⟨w5.heap.size, 0, none⟩) 2 2) [(tA, tB), (tAB, tC)] := by
    have h : rowE mergeE w3 w5.heap.size [(tA, tB), (tAB, tC)] := by rw [hw3]; exact ⟨_, heap_alloc_new w5 _, rfl⟩
    exact (h.own (b := 0) (Nat.zero_le _) (by decide)).reads
  have cS := nvsame_true v (.slice (some ⟨w5.heap.size, 0, none⟩) 2 2) _ w3 (hv.below hb3 (Nat.le_refl _)) hx3 (by decide)
  have HB3 : Hid (Below w.heap.size w w3) := Lib.hid ((HB1.out.trans (hb2.mono HB1.out.size)).trans (hb3.mono (Nat.le_trans HB1.out.size hb2.size)))
  have hw3' := hw3.symm
  have hw5' := hw5.symm
  have c1 : w5.cell? ⟨w2.heap.size, 1, none⟩ = some (.int .i64 2) := by rw [hw5]; simp
  unfold tA tB tAB tC at hw3'
  clear hw3 hw5 hb3 hb5 hb35 hx3 hv hb2 hl cN hl1 hl2
  go_wp2_with fail
  refine cS.mono ?_
  rintro e w4 ⟨rfl, hb4⟩
  have HB4 := Lib.hid (HB3.out.trans (hb4.mono HB3.out.size))
  clear hb4 cS
  go_wp2
  go_ret
  exact ⟨rfl, HB4.out⟩
set_option maxRecDepth 100000 in
theorem stats_eql (w : World) : (binOp .eql 29 (stV noS) (stV noS)).run Tryz.prog w = .ok (.bool true) w := by kernel_rfl
end Go.Proofs.YtnmacalbbmeedaaGreat
/- The document's Bounded and Words. -/
namespace Go.Proofs.YtnmacalbbmeedaaGreat
open Go.RowKit

set_option maxRecDepth 100000 in
set_option maxHeartbeats 4000000 in
theorem bounded_true (s : StN) (N R : Nat) (w : World) (h : BoundS s N R) (hN : N ≤ 1000000) : Calls Tryz.prog 15 #[stV s, .int .i64 (N : Int), .int .i64 (R : Int)] w fun e w' => e = .returned (.bool true) ∧ Below w.heap.size w w' := by
  obtain ⟨s1, s2, s3, s4, s5, s6⟩ := s
  obtain ⟨h1, h2, ⟨h3, h4⟩, ⟨h5, h6⟩, ⟨h7, h8⟩, h9, h10⟩ := h
  simp only at h1 h2 h3 h4 h5 h6 h7 h8 h9
  subst h1 h2
  have hw1 : IntKind.i64.wrap (5 * (N : Int)) = 5 * (N : Int) := IntWalk.i64_in _ (by omega)
  have hw2 : IntKind.i64.wrap (5 * (N : Int) + 1) = 5 * (N : Int) + 1 := IntWalk.i64_in _ (by omega)
  have h10' : (R : Int) ≤ (N : Int) := by omega
  have HB : Hid (∀ o : Obj, Below w.heap.size w (w.alloc o)) := Lib.hid fun o => (Below.refl _ w).alloc (Nat.le_refl _) o
  unfold stV
  simp only
  clear h10 hN
  go_enter Tryz.func15, Tryz.ntmps15
  go_wp2
  go_ret
  exact ⟨by simp, HB.out _⟩
def WoRel1 (L : Bag) (ms : List Mg) (w : World) (v i : Value) (wr : World) : Prop :=
  ∃ k : Nat, i = .int .i64 (k : Int) ∧ k ≤ L.length ∧ rowsO wr w.heap.size v ((runT (startW L) ms).take k) ∧ Below w.heap.size w wr
def WoRel2 (s : ByteArray) (ms : List Mg) (w : World) (vo : Value) (RR : List (List ByteArray)) (u j : Value) (wr : World) : Prop :=
  ∃ k : Nat, j = .int .i64 (k : Int) ∧ k ≤ ms.length ∧ ownE textE wr w.heap.size u (runW (bytesT s) (ms.take k)) ∧ rowsO wr w.heap.size vo RR ∧ Below w.heap.size w wr
set_option maxRecDepth 100000 in
theorem runW_take {W : List ByteArray} {ms : List Mg} {k : Nat} (h : k < ms.length) : runW W (ms.take (k + 1)) = joinT ms[k] (runW W (ms.take k)) := by
  rw [List.take_succ_eq_append_getElem h, runW_append]
  rfl
set_option maxRecDepth 100000 in
theorem runW_len (ms : List Mg) : ∀ W : List ByteArray, (runW W ms).length ≤ W.length := by
  induction ms with
  | nil => intro W; exact Nat.le_refl _
  | cons m r ih => intro W; exact Nat.le_trans (ih _) (joinT_len m W)
def WoRet (L : Bag) (ms : List Mg) (w : World) (e : Ending) (w' : World) : Prop := ∃ v, e = .returned v ∧ rowsO w' w.heap.size v (runT (startW L) ms) ∧ Below w.heap.size w w'
set_option maxRecDepth 100000 in
set_option maxHeartbeats 8000000 in
theorem rwords_any (x y : Value) (L : Bag) (ms : List Mg) (w : World) (hx : wordsAt w x L) (hy : eltsAt mergeE w y ms) (hL : L.length ≤ 1000000) (hby : bytesOf L ≤ 500000) (hml : ms.length ≤ 1000000) (hms : ∀ m ∈ ms, m.1.size + m.2.size ≤ 1000000) :
    Calls Tryz.prog 17 #[x, y] w fun e w' => WoRet L ms w e w' := by
  obtain ⟨a, cap, rfl, _⟩ := id hx
  obtain ⟨ay, cy, rfl, _⟩ := id hy
  obtain ⟨N, hN⟩ : ∃ N, L.length = N := ⟨_, rfl⟩
  obtain ⟨R, hR⟩ : ∃ N, ms.length = N := ⟨_, rfl⟩
  rw [hN] at hx ⊢
  rw [hR] at hy ⊢
  have HX := Lib.hid hx
  have HY := Lib.hid hy
  have HN := Lib.hid hN
  have HRR := Lib.hid hR
  have HBY := Lib.hid hby
  have HMS := Lib.hid hms
  have hNl : N ≤ 1000000 := by omega
  have hRl : R ≤ 1000000 := by omega
  have HST : Hid (WoRel1 L ms w (.slice none 0 0) (.int .i64 ((0 : Nat) : Int)) w) := Lib.hid ⟨0, rfl, Nat.zero_le _, rowsO.nil _ _, Below.refl _ _⟩
  clear hx hy hN hR hby hms hL hml
  go_enter Tryz.func17, Tryz.ntmps17
  go_wp2
  go_loopw [5, 6] (fun v i wr => WoRel1 L ms w v i wr) (fun _ i _ => N - (intOf i).toNat)
  case atStart => exact HST.out
  case round =>
    clear HST
    obtain ⟨k, rfl, hk, hr, hb⟩ := hrel
    rw [HN.out] at hk
    have HRO := Lib.hid hr; have HB := Lib.hid hb
    clear hr hb
    by_cases hgo : k < N
    · have hgoI : (k : Int) < (N : Int) := by omega
      have hkL : k < L.length := by rw [HN.out]; exact hgo
      have hwk : IntKind.i64.wrap ((k : Int) + 1) = (k : Int) + 1 := IntWalk.i64_in _ (by omega)
      obtain ⟨ad, rfl⟩ : ∃ ad, a = some ad := by
        obtain ⟨_, _, e1, hc⟩ := HX.out
        obtain ⟨ad, e2, _⟩ := hc k hkL
        exact ⟨ad, (Value.slice.inj e1).1.trans e2⟩
      have hX := HX.out
      rw [← HN.out] at hX
      obtain ⟨t0, _⟩ := words_at hX HB.out hkL
      obtain ⟨s, hsz⟩ : ∃ s, L[k].1 = s := ⟨_, rfl⟩
      rw [hsz] at t0
      have hss : s.size ≤ 500000 := by
        have h3 : ∀ M : Bag, ∀ q ∈ M, q.1.size ≤ bytesOf M := by
          intro M
          induction M with
          | nil => intro q h; simp at h
          | cons q r ih =>
            intro z h
            have e : bytesOf (q :: r) = q.1.size + bytesOf r := by simp [bytesOf]
            rw [e]
            rcases List.mem_cons.1 h with h | h
            · rw [h]; exact Nat.le_add_right _ _
            · have := ih z h; omega
        have := h3 L L[k] (List.getElem_mem _)
        rw [hsz] at this
        have := HBY.out
        omega
      have HS := Lib.hid hsz
      have HSS := Lib.hid hss
      have cT := rtexts_any s wr (by omega)
      clear hX hsz hss
      go_wp2_with fail
      refine cT.mono ?_
      rintro e w5 ⟨r, rfl, hr, hb5⟩
      have HST2 : Hid (WoRel2 s ms w u5 ((runT (startW L) ms).take k) r (.int .i64 ((0 : Nat) : Int)) w5) := Lib.hid ⟨0, rfl, Nat.zero_le _, hr.mono HB.out.size, HRO.out.below hb5, HB.out.trans (hb5.mono HB.out.size)⟩
      clear cT hr hb5 t0
      go_wp2
      go_loopw [7, 8] (fun u j wr => WoRel2 s ms w u5 ((runT (startW L) ms).take k) u j wr) (fun _ j _ => R - (intOf j).toNat)
      case atStart => exact HST2.out
      case round =>
        clear HST2
        obtain ⟨j, rfl, hj, ho, hro, hb⟩ := hrel
        rw [HRR.out] at hj
        have HO := Lib.hid ho; have HRO2 := Lib.hid hro; have HB2 := Lib.hid hb
        clear ho hro hb
        by_cases hjo : j < R
        · have hjoI : (j : Int) < (R : Int) := by omega
          have hjM : j < ms.length := by rw [HRR.out]; exact hjo
          have hwj : IntKind.i64.wrap ((j : Int) + 1) = (j : Int) + 1 := IntWalk.i64_in _ (by omega)
          obtain ⟨ae, rfl⟩ : ∃ ad, ay = some ad := by
            obtain ⟨_, _, e1, hc⟩ := HY.out
            obtain ⟨ad, e2, _⟩ := hc j hjM
            exact ⟨ad, (Value.slice.inj e1).1.trans e2⟩
          have hY := HY.out
          rw [← HRR.out] at hY
          obtain ⟨c0, c1⟩ := merges_at hY HB2.out hjM
          obtain ⟨⟨bl, br⟩, hm⟩ : ∃ m, ms[j] = m := ⟨_, rfl⟩
          have hmz := HMS.out ms[j] (List.getElem_mem _)
          rw [hm] at c0 c1 hmz
          simp only at c0 c1 hmz
          have hlen : (runW (bytesT s) (ms.take j)).length ≤ 1000000 := by
            have := runW_len (ms.take j) (bytesT s)
            rw [bytesT_len] at this
            have := HSS.out
            omega
          have cJ := rjoin_any (bl, br) u7 (runW (bytesT s) (ms.take j)) wr HO.out.reads hlen hmz
          have HNW : Hid (joinT (bl, br) (runW (bytesT s) (ms.take j)) = runW (bytesT s) (ms.take (j + 1))) := Lib.hid (by rw [runW_take hjM, hm])
          simp only at cJ
          clear hY hm hmz hlen
          go_wp2_with fail
          refine cJ.mono ?_
          rintro e w6 ⟨r6, rfl, hr6, hb6⟩
          have HR6 := Lib.hid (hr6.mono (b' := w.heap.size) HB2.out.size)
          have HRO6 := Lib.hid (HRO2.out.below hb6)
          have HB6 := Lib.hid (HB2.out.trans (hb6.mono HB2.out.size))
          clear cJ hr6 hb6 c0 c1
          go_wp2
          go_roundw
          case rel => exact ⟨j + 1, by simp, by rw [HRR.out]; omega, by rw [← HNW.out]; exact HR6.out, HRO6.out, HB6.out⟩
          case measure => simp [intOf]; omega
        · have hjoI : ¬ (j : Int) < (R : Int) := by omega
          obtain ⟨RW, hRW⟩ : ∃ W, runW (bytesT s) (ms.take j) = W := ⟨_, rfl⟩
          have hW : (runT (startW L) ms).take (k + 1) = (runT (startW L) ms).take k ++ [RW] := by
            have hkR : k < (runT (startW L) ms).length := by rw [runT_len, startW_len]; exact hkL
            have e : ms.take j = ms := List.take_of_length_le (by rw [HRR.out]; omega)
            rw [List.take_succ_eq_append_getElem hkR, ← hRW, e]
            congr 2
            simp only [runT_map, List.getElem_map, startW, HS.out]
          have ho := HO.out
          rw [hRW] at ho
          obtain ⟨ra, rc, erf, _⟩ := ho.form
          subst erf
          obtain ⟨E, e1, e2, e3⟩ := HRO2.out
          have HW := Lib.hid hW
          have HE1 := Lib.hid e1
          have HE2 : Hid (ownE slTE (wr.alloc (.cells #[.slice ra RW.length rc] 52)) w.heap.size u5 E) := Lib.hid (e2.alloc _)
          have HE3 : Hid (∀ i (h : i < E.length) (h' : i < ((runT (startW L) ms).take k).length), ownE textE (wr.alloc (.cells #[.slice ra RW.length rc] 52)) w.heap.size (hsV E[i]) ((runT (startW L) ms).take k)[i]) := Lib.hid fun i a b => (e3 i a b).alloc _
          have HRB : Hid (ownE textE (wr.alloc (.cells #[.slice ra RW.length rc] 52)) w.heap.size (hsV (ra, RW.length, rc)) RW) := Lib.hid (ho.alloc _)
          have HEL : Hid (eltsAt slTE (wr.alloc (.cells #[.slice ra RW.length rc] 52)) (.slice (some ⟨wr.heap.size, 0, none⟩) 1 1) [(ra, RW.length, rc)]) := Lib.hid (one_elt slTE wr _)
          have HB5 : Hid (Below w.heap.size w (wr.alloc (.cells #[.slice ra RW.length rc] 52))) := Lib.hid (HB2.out.alloc HB2.out.size _)
          have HTL : Hid (((runT (startW L) ms).take k).length ≤ 1000000) := Lib.hid (by rw [List.length_take]; omega)
          clear e1 e2 e3 hW hRW ho
          go_wp2_with (at_builtin
                       refine wpList_append_elts slTE rfl (.tmp 33) (.tmp 35) rfl w.heap.size u5 _ E [(ra, RW.length, rc)] rfl rfl HE2.out HEL.out (someNone _ _ _) (by rw [HE1.out]; have := HTL.out; simp only [List.length_singleton]; omega) HB5.out.size ?_
                       intro r6 w6 ho6 hg6 _
                       have HR6 := Lib.hid (rowsO.app HE1.out HE2.out HE3.out HRB.out ho6 hg6)
                       have HB6 : Hid (Below w.heap.size w w6) := Lib.hid (HB5.out.grown hg6 HB5.out.size fun g e => (HE2.out.lt g e).1)
                       clear ho6 hg6)
          go_roundw
          case rel => exact ⟨k + 1, by simp, by rw [HN.out]; omega, by rw [HW.out]; exact HR6.out, HB6.out⟩
          case measure => simp [intOf]; omega
    · have hgoI : ¬ (k : Int) < (N : Int) := by omega
      have hr := HRO.out
      rw [List.take_of_length_le (by rw [runT_len, startW_len, HN.out]; omega)] at hr
      have HR2 := Lib.hid hr
      clear hr
      go_wp2
      go_ret
      exact ⟨_, rfl, HR2.out, HB.out⟩
end Go.Proofs.YtnmacalbbmeedaaGreat
/- NaiveLearns: what is learnt is what the document says, and right. -/
namespace Go.Proofs.YtnmacalbbmeedaaGreat
open Go.RowKit

set_option maxRecDepth 100000 in
theorem nv_same {L : Bag} {budget least : Int} {ms ks : List Mg} (h1 : (((checkOf L).2 ≠ 0 ∨ least < 1) → ms = [])) (h2 : (checkOf L).2 = 0 → 1 ≤ least → Learned (startW L) (countsOf L) budget least ms)
    (k1 : (((checkOf L).2 ≠ 0 ∨ least < 1) → ks = [])) (k2 : (checkOf L).2 = 0 → 1 ≤ least → Learned (startW L) (countsOf L) budget least ks) : ms = ks := by
  by_cases hb : (checkOf L).2 ≠ 0 ∨ least < 1
  · rw [h1 hb, k1 hb]
  · have hl : 1 ≤ least := by
      refine Classical.byContradiction fun hc => hb (.inr (by omega))
    have he : (checkOf L).2 = 0 := Classical.byContradiction fun hc => hb (.inl hc)
    exact learned_uni (h2 he hl) (k2 he hl)
set_option maxRecDepth 100000 in
/-- What is learnt is short, and of short texts. -/
theorem nv_small {L : Bag} {budget least : Int} {ms : List Mg} {n : Nat} (hn : bytesOf L ≤ n) (h1 : (((checkOf L).2 ≠ 0 ∨ least < 1) → ms = [])) (h2 : (checkOf L).2 = 0 → 1 ≤ least → Learned (startW L) (countsOf L) budget least ms) : ms.length ≤ n ∧ ∀ m ∈ ms, m.1.size ≤ n ∧ m.2.size ≤ n := by
  by_cases hb : (checkOf L).2 ≠ 0 ∨ least < 1
  · rw [h1 hb]
    exact ⟨by simp, fun m hm => by simp at hm⟩
  · have hl : 1 ≤ least := by
      refine Classical.byContradiction fun hc => hb (.inr (by omega))
    have he : (checkOf L).2 = 0 := Classical.byContradiction fun hc => hb (.inl hc)
    have h3 := h2 he hl
    have h4 := learned_short (C := countsOf L) hl h3.each ms.length (Nat.le_refl _)
    rw [start_all] at h4
    refine ⟨by omega, fun m hm => ?_⟩
    obtain ⟨i, hi, rfl⟩ := List.getElem_of_mem hm
    obtain ⟨k, a1, a2⟩ := h3.each i hi
    obtain ⟨w, hw, hc⟩ := a1.some (by omega)
    obtain ⟨P, Q, e⟩ := cnt_stands hc
    exact ⟨run_small hn _ w hw _ (by rw [e]; simp), run_small hn _ w hw _ (by rw [e]; simp)⟩
end Go.Proofs.YtnmacalbbmeedaaGreat
/- NaiveGrows: with a greater budget the merges begin alike; with a greater least count, too. -/
namespace Go.Proofs.YtnmacalbbmeedaaGreat
open Go.RowKit

set_option maxRecDepth 100000 in
theorem nv_more {L : Bag} {b b' d d' : Int} {ms ks : List Mg} (hd : 1 ≤ d) (hd' : 1 ≤ d') (h1 : (((checkOf L).2 ≠ 0 ∨ d < 1) → ms = [])) (h2 : (checkOf L).2 = 0 → 1 ≤ d → Learned (startW L) (countsOf L) b d ms)
    (k1 : (((checkOf L).2 ≠ 0 ∨ d' < 1) → ks = [])) (k2 : (checkOf L).2 = 0 → 1 ≤ d' → Learned (startW L) (countsOf L) b' d' ks) (hb : b ≤ b') (hdd : d' ≤ d) : ms = ks.take ms.length ∧ ms.length ≤ ks.length := by
  by_cases he : (checkOf L).2 = 0
  · exact learned_more (h2 he hd) (k2 he hd') hb hdd
  · rw [h1 (.inl he), k1 (.inl he)]
    exact ⟨rfl, Nat.le_refl _⟩
set_option maxRecDepth 100000 in
theorem sizeMerges (w : World) : (sizeOf (Tryz.prog.elem 27)).run Tryz.prog w = .ok 2 w := by
  obtain ⟨j0, hj, hy0, hy1, hy2⟩ := info_parts mergeE.info
  have he : Tryz.prog.elem 27 = mergeE.ty := by kernel_rfl
  rw [he]
  simp [sizeOf, typeInfo, hj, hy1]
  rfl
set_option maxRecDepth 100000 in
theorem elemMerges : Tryz.prog.underlying 27 = some (.slice (Tryz.prog.elem 27)) := by kernel_rfl
set_option maxRecDepth 100000 in
theorem merges_head (a : Option Addr) (len cap k : Nat) (K : Int) (hK : K = (k : Int)) (hk : k ≤ cap) : ∃ v, (∀ w, (Instr.slice 27 (.slice a len cap) none (some (.int .i64 K)) none).run Tryz.prog w = .ok v w) ∧
    ∀ w L, eltsAt mergeE w (.slice a len cap) L → k ≤ L.length → eltsAt mergeE w v (L.take k) := by
  subst hK
  refine ⟨sliced a 0 k cap 2, fun w => ?_, ?_⟩
  · rw [run_slice_h w 27 a len cap elemMerges .i64 k (by omega) (by omega), sizeMerges]
    simp
  · rintro w L ⟨a', cap', e, hc⟩ hkL
    obtain ⟨rfl, rfl, rfl⟩ := Value.slice.inj e
    unfold sliced
    refine ⟨_, cap - 0, by rw [List.length_take, Nat.min_eq_left hkL]; rfl, fun j hj => ?_⟩
    rw [List.length_take] at hj
    obtain ⟨ad, rfl, hlt, hcj⟩ := hc j (by omega)
    refine ⟨ad, ?_, hlt, fun i u hu => hcj i u ?_⟩
    · split <;> simp [add_zero_any]
    · rw [List.getElem_take] at hu; exact hu
end Go.Proofs.YtnmacalbbmeedaaGreat
/- What the laws of train ask of a learner that is stepped; the same texts. -/
namespace Go.Proofs.YtnmacalbbmeedaaGreat
open Go.RowKit

abbrev LObj := World → (Nat → Prop) → Nat → List Mg → Prop
/-- From w to w' only blocks of S have turned; now the object's are in S', which has no other old ones. -/
structure StpT (S S' : Nat → Prop) (w w' : World) : Prop where
  kept : Kept S w w'
  out : ∀ k, S' k → k < w.heap.size → S k
def StRet (O : LObj) (L : Bag) (b d : Int) (S : Nat → Prop) (K : Nat) (ms : List Mg) (w : World) (e : Ending) (w' : World) : Prop :=
  ∃ S', StpT S S' w w' ∧ ((∃ m n, BestRel (runT (startW L) ms) (countsOf L) m n ∧ d ≤ n ∧ (ms.length : Int) < b ∧ e = .returned (.tuple #[.agg #[.string m.1, .string m.2], .bool true]) ∧ O w' S' K (ms ++ [m])) ∨
    (((ms.length : Int) = max b 0 ∨ ∃ m n, BestRel (runT (startW L) ms) (countsOf L) m n ∧ n < d) ∧ e = .returned (.tuple #[.agg #[.string ⟨#[]⟩, .string ⟨#[]⟩], .bool false]) ∧ O w' S' K ms))
/-- A learner of the table L, with the budget b and the least count d. -/
structure LrnOk (O : LObj) (L : Bag) (b d : Int) : Prop where
  kept : ∀ {w w' : World} {S : Nat → Prop} {K : Nat} {ms : List Mg}, O w S K ms → (∀ k, k < w.heap.size → S k → w'.heap[k]? = w.heap[k]?) → w.heap.size ≤ w'.heap.size → O w' S K ms
  lt : ∀ {w : World} {S : Nat → Prop} {K : Nat} {ms : List Mg}, O w S K ms → ∀ k, S k → k < w.heap.size
  step : ∀ {w : World} {S : Nat → Prop} {K : Nat} {ms : List Mg}, O w S K ms → Calls Tryz.prog 14 #[.pointer (some ⟨K, 0, none⟩)] w (StRet O L b d S K ms w)
  stats : ∀ {w : World} {S : Nat → Prop} {K : Nat} {ms : List Mg}, O w S K ms → Calls Tryz.prog 16 #[.pointer (some ⟨K, 0, none⟩)] w fun e w' => ∃ s, e = .returned (stV s) ∧ BoundS s (bytesOf L) ms.length ∧ Below w.heap.size w w'
  words : ∀ {w : World} {S : Nat → Prop} {K : Nat} {ms : List Mg}, O w S K ms → Calls Tryz.prog 18 #[.pointer (some ⟨K, 0, none⟩)] w fun e w' => ∃ v, e = .returned v ∧ rowsT w' v (runT (startW L) ms) ∧ Below w.heap.size w w'
  merges : ∀ {w : World} {S : Nat → Prop} {K : Nat} {ms : List Mg}, O w S K ms → Calls Tryz.prog 19 #[.pointer (some ⟨K, 0, none⟩)] w fun e w' => ∃ v, e = .returned v ∧ eltsAt mergeE w' v ms ∧ Below w.heap.size w w'
def NwRet (O : Bag → Int → Int → LObj) (L : Bag) (b d lim : Int) (w : World) (e : Ending) (w' : World) : Prop :=
  Below w.heap.size w w' ∧ ((errT L b d lim ≠ 0 ∧ e = .returned (.tuple #[.pointer none, .int .i64 (errT L b d lim)])) ∨
    (errT L b d lim = 0 ∧ ∃ K S, e = .returned (.tuple #[.pointer (some ⟨K, 0, none⟩), .int .i64 0]) ∧ LrnOk (O L b d) L b d ∧ O L b d w' S K [] ∧ ∀ k, S k → w.heap.size ≤ k))
/-- What is asked of the program's New. -/
def TNews (O : Bag → Int → Int → LObj) : Prop := ∀ (x : Value) (L : Bag) (b d lim : Int) (w : World), wordsAt w x L → L.length ≤ 60 → Fits L → bytesOf L ≤ 300 → FitsB b → FitsB d → FitsB lim →
  Calls Tryz.prog 12 #[x, .agg #[.int .i64 b, .int .i64 d, .int .i64 lim]] w fun e w' => NwRet O L b d lim w e w'
/-- What is asked of a nil learner. -/
structure TNils : Prop where
  step : ∀ w : World, Calls Tryz.prog 14 #[.pointer none] w fun e w' => e = .returned (.tuple #[.agg #[.string ⟨#[]⟩, .string ⟨#[]⟩], .bool false]) ∧ Below w.heap.size w w'
  stats : ∀ w : World, Calls Tryz.prog 16 #[.pointer none] w fun e w' => e = .returned (stV noS) ∧ Below w.heap.size w w'
  words : ∀ w : World, Calls Tryz.prog 18 #[.pointer none] w fun e w' => (∃ a c, e = .returned (.slice a 0 c)) ∧ Below w.heap.size w w'
  merges : ∀ w : World, Calls Tryz.prog 19 #[.pointer none] w fun e w' => (∃ a c, e = .returned (.slice a 0 c)) ∧ Below w.heap.size w w'
set_option maxRecDepth 100000 in
/-- What is learnt step by step is the whole's beginning: a step. -/
theorem step_next {W : List (List ByteArray)} {C : List Int} {b d : Int} {want : List Mg} (h : Learned W C b d want) {i : Nat} {m : Mg} {n : Int} (hb : BestRel (runT W (want.take i)) C m n) (hn : d ≤ n) (hlt : (i : Int) < b) : ∃ h : i < want.length, want[i] = m := by
  by_cases e : i < want.length
  · obtain ⟨n', a1, _⟩ := h.each i e
    exact ⟨e, (best_uni a1 hb).1⟩
  · have e2 : want.take i = want := List.take_of_length_le (by omega)
    rw [e2] at hb
    rcases h.stop with h1 | ⟨m2, n2, h1, h2⟩
    · omega
    · have := (best_uni h1 hb).2
      omega
set_option maxRecDepth 100000 in
/-- .. and its end. -/
theorem step_end {W : List (List ByteArray)} {C : List Int} {b d : Int} {want : List Mg} (h : Learned W C b d want) {i : Nat} (he : (i : Int) = max b 0 ∨ ∃ m n, BestRel (runT W (want.take i)) C m n ∧ n < d) : ¬ i < want.length := fun e => by
  rcases he with he | ⟨m, n, h1, h2⟩
  · have := h.len; omega
  · obtain ⟨n', a1, a2⟩ := h.each i e
    have := (best_uni a1 h1).2
    omega
set_option maxRecDepth 100000 in
theorem merge_neq_no (a b : ByteArray) (w : World) : (binOp .neq 42 (.agg #[.string a, .string b]) (.agg #[.string a, .string b])).run Tryz.prog w = .ok (.bool false) w := by
  have u32 := Tryz.underlying42
  have u9 := Tryz.underlying9
  simp [go_sem, u32, u9]
set_option maxRecDepth 100000 in
theorem tr_min (N NC K : Nat) (h : K = min N NC) (w : World) : (Builtin.min_ #[3, 3] 3 #[.int .i64 (N : Int), .int .i64 (NC : Int)]).run Tryz.prog w = .ok (.int .i64 (K : Int)) w := by
  rw [run_min_int2]
  by_cases e : (NC : Int) < (N : Int)
  · rw [if_pos e, show K = NC by omega]
  · rw [if_neg e, show K = N by omega]
set_option maxRecDepth 100000 in
set_option maxHeartbeats 1000000 in
theorem tr_texts (v x : Value) (L : List ByteArray) (w : World) (hv : eltsAt textE w v L) (hx : eltsAt textE w x L) (hL : L.length ≤ 1000000) :
    Calls Tryz.prog 20 #[v, x] w fun e w' => e = .returned (.bool true) ∧ ∃ m, w' = w.drewN m := by
  have HV := Lib.hid hv
  have HX := Lib.hid hx
  obtain ⟨a, cap, rfl, hc⟩ := hv
  obtain ⟨b, cap2, rfl, hd⟩ := hx
  have HC := Lib.hid hc
  have HD := Lib.hid hd
  clear hc hd
  go_enter Tryz.func20, Tryz.ntmps20
  go_wp2
  go_loopw [5] (fun i wr => NvToRel L.length w i wr) (fun i _ => L.length + 1 - (intOf i).toNat)
  case atStart => exact ⟨0, 0, rfl, by omega, rfl⟩
  case round =>
    obtain ⟨k, m, rfl, hk, hw⟩ := hrel
    have HW := Lib.hid hw
    have HB : Hid (Below w.heap.size w wr) := Lib.hid (by rw [hw]; exact below_drewN' (Below.refl _ _) _)
    clear hw
    by_cases hgo : k < L.length
    · have hkI : (k : Int) < (L.length : Int) := by omega
      obtain ⟨ad, rfl, _⟩ := HC.out k hgo
      obtain ⟨ae, rfl, _⟩ := HD.out k hgo
      have c0 := txt_cell HV.out HB.out hgo
      have d0 := txt_cell HX.out HB.out hgo
      go_wp2
      go_quiet (fail)
      go_wp2
      go_roundw
      case rel => exact ⟨k + 1, m + nq, by simp, hgo, by rw [HW.out]; simp⟩
      case measure => simp [intOf]; omega
    · have hkI : ¬ (k : Int) < (L.length : Int) := by omega
      go_wp2
      go_ret
      exact ⟨rfl, m, HW.out⟩
end Go.Proofs.YtnmacalbbmeedaaGreat
