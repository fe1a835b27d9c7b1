/- The walk of CheckedSums. -/
import Derived.Test.YtcjefnbnihbncaaTells
import Derived.Test.YtcjefnbnihbncaaRowsum
namespace Go.Proofs.Ytcjefnbnihbncaa
open Go.RowKit

/-- Ones up to place k, then zeros. -/
def onesTo (k n : Nat) : List Int := List.replicate k 1 ++ List.replicate (n - k) 0
theorem onesTo_len {k n : Nat} (h : k ≤ n) : (onesTo k n).length = n := by simp [onesTo]; omega
theorem onesTo_zero (n : Nat) : onesTo 0 n = List.replicate n 0 := by simp [onesTo]
theorem onesTo_all (n : Nat) : onesTo n n = List.replicate n 1 := by simp [onesTo]
theorem onesTo_set {k n : Nat} (h : k < n) : (onesTo k n).set k 1 = onesTo (k + 1) n := by
  have e : n - k = (n - (k + 1)) + 1 := by omega
  unfold onesTo
  rw [e, List.replicate_succ, List.set_append_right _ _ (by simp)]
  simp [List.replicate_succ', List.append_assoc]
/-- The row g is filled with ones up to place i. -/
def OnesRel (w : World) (g n : Nat) (i : Value) (wr : World) : Prop :=
  ∃ k : Nat, i = .int .i64 (k : Int) ∧ k ≤ n ∧ rowI wr g (onesTo k n) ∧ Below w.heap.size w wr
theorem onesRel_step {w wr : World} {g n k : Nat} (hk : k < n) (hg : w.heap.size ≤ g) (hr : rowI wr g (onesTo k n)) (hb : Below w.heap.size w wr) :
    OnesRel w g n (.int .i64 ((k : Int) + 1)) (wr.setCell ⟨g, k, none⟩ (.int .i64 1)) :=
  ⟨k + 1, by simp, hk, by rw [← onesTo_set hk]; exact hr.store k 1, hb.setCell hg _⟩
theorem in64_ones (n : Nat) : in64 (List.replicate n 1) := by
  intro z hz
  obtain ⟨_, rfl⟩ := List.mem_replicate.1 hz
  decide
set_option maxRecDepth 100000 in
set_option maxHeartbeats 1000000 in
theorem checkedSums_walk (v x : Value) (A B : List Int) (w : World) (hv : intsAt w v A) (hx : intsAt w x B) (hA : A.length ≤ maxLen) (hB : B.length ≤ maxLen) (ha : in64 A) (hb : in64 B) :
    Calls Try.prog 4 #[v, x] w fun e w' => e = .returned (.bool true) ∧ Below w.heap.size w w' := by
  obtain ⟨i0, hi, hz0, hz1, hz2⟩ := info_parts Try.info3
  have HV := Lib.hid hv; have HX := Lib.hid hx
  obtain ⟨aA, capA, rfl, _⟩ := hv
  obtain ⟨aB, capB, rfl, _⟩ := hx
  unfold maxLen at hA hB
  by_cases h : 300 < A.length
  · go_enter Try.func4, Try.ntmps4
    go_wp2_with (go_at_call 6; refine (awake_any _).mono ?_; rintro e w1 ⟨rfl, rfl⟩)
    go_ret
    exact ⟨rfl, Below.refl _ _⟩
  · by_cases h2 : 300 < B.length
    · go_enter Try.func4, Try.ntmps4
      go_wp2_with (go_at_call 6; refine (awake_any _).mono ?_; rintro e w1 ⟨rfl, rfl⟩)
      go_ret
      exact ⟨rfl, Below.refl _ _⟩
    · have hsI : ¬ (300 : Int) < (A.length : Int) := by omega
      have hzI : ¬ (300 : Int) < (B.length : Int) := by omega
      go_enter Try.func4, Try.ntmps4
      go_wp2_with fail
      refine (awake_any _).mono ?_
      rintro e w1 ⟨rfl, rfl⟩
      go_wp2_with (at_make; refine wpList_make_full _ rfl _ _ 26 rfl w1.heap.size 3 i0 (.int .i64 0) 1 Try.underlying26 hi hz0 hz1 .i64 .i64 _ _ A.length rfl rfl rfl rfl (by rw [hz2]; omega) (by unfold maxLen; omega) (Nat.le_refl _) ?_; intro w2 hown hgr)
      have HR := Lib.hid (ownI.row (ownI_zeros hown))
      have HB2 := Lib.hid ((Below.refl w1.heap.size w1).grown hgr (Nat.le_refl _) fun g hg => by cases hg)
      clear hown hgr
      go_loopw [6] (fun i wr => OnesRel w1 w1.heap.size A.length i wr) (fun i _ => A.length + 1 - (intOf i).toNat)
      case atStart => exact ⟨0, rfl, by omega, by rw [onesTo_zero]; exact HR.out, HB2.out⟩
      case round =>
        obtain ⟨k, rfl, hk, hrow, hbel⟩ := hrel
        have HB3 := Lib.hid hbel; have HR3 := Lib.hid hrow
        clear hbel hrow
        by_cases hgo : k < A.length
        · have hkI : (k : Int) < (A.length : Int) := by omega
          obtain ⟨hcell, hfz⟩ := HR3.out.cells (j := k) (by rw [onesTo_len hk]; exact hgo)
          go_wp2
          go_roundw
          case rel => exact onesRel_step hgo (Nat.le_refl _) HR3.out HB3.out
          case measure => simp [intOf]; omega
        · have hkI : ¬ (k : Int) < (A.length : Int) := by omega
          obtain rfl : k = A.length := by omega
          have hrow := HR3.out.reads A.length
          rw [onesTo_all, List.length_replicate] at hrow
          have HO := Lib.hid hrow
          have HV3 := Lib.hid (HV.out.below HB3.out (Nat.le_refl _))
          have HX3 := Lib.hid (HX.out.below HB3.out (Nat.le_refl _))
          clear hrow
          have hd := dot_ones A (fun z hz => (ha z hz).2) 0
          have cS := fun w h => sum_any (.slice aA A.length capA) A w h (by unfold maxLen; omega) ha
          have cR := fun w h k => refDot_any (.slice aA A.length capA) (.slice (some ⟨w1.heap.size, 0, none⟩) A.length A.length) A (List.replicate A.length 1) w h k (by unfold maxLen; omega) ha (in64_ones _)
          have cD := fun w h k => dot_any (.slice aA A.length capA) (.slice aB B.length capB) A B w h k (by unfold maxLen; omega) ha hb
          have cE := fun w h k => refDot_any (.slice aA A.length capA) (.slice aB B.length capB) A B w h k (by unfold maxLen; omega) ha hb
          rw [hd] at cR
          generalize sumFrom 0 A = s at cS cR
          generalize dotFrom 0 A B = d at cD cE
          obtain ⟨s1, s2⟩ := s
          obtain ⟨d1, d2⟩ := d
          clear hd
          go_wp2_with fail
          refine (cS _ HV3.out).mono ?_
          rintro e w4 ⟨rfl, rfl⟩
          go_wp2_with fail
          refine (cR _ HV3.out HO.out).mono ?_
          rintro e w5 ⟨rfl, n5, rfl⟩
          go_wp2_with fail
          refine (cD _ (HV3.out.drew n5) (HX3.out.drew n5)).mono ?_
          rintro e w6 ⟨rfl, n6, rfl⟩
          go_wp2_with fail
          refine (cE _ (HV3.out.drew (n5 + n6)) (HX3.out.drew (n5 + n6))).mono ?_
          rintro e w7 ⟨rfl, n7, rfl⟩
          go_wp2
          go_ret
          exact ⟨rfl, below_drewN' HB3.out _⟩
end Go.Proofs.Ytcjefnbnihbncaa
