/- Sum and Dot of layer 6, and the document's Dot. -/
import Derived.Test.YtbacbgpemaldbaaMul
import Derived.Test.YtbacbgpemaldbaaInts
import Derived.BigQuiet
namespace Go.Proofs.Ytbacbgpemaldbaa
open Go.RowKit

/-- A pair of a number and whether it is one, returned. -/
def told (r : Int × Bool) : Value := .tuple #[.int .i64 r.1, .bool r.2]
/-- What is left to be added, and how far one is. -/
def SumRel (Z : List Int) (w : World) (t i : Value) (wr : World) : Prop :=
  ∃ (k : Nat) (s : Int), i = .int .i64 (k : Int) ∧ t = .int .i64 s ∧ k ≤ Z.length ∧ 0 ≤ s ∧ s ≤ 9223372036854775807 ∧ sumFrom 0 Z = sumFrom s (Z.drop k) ∧ wr = w
set_option maxRecDepth 100000 in
theorem sumRel_step {Z : List Int} {w : World} {k : Nat} {s q : Int} (hk : k < Z.length) (he : sumFrom 0 Z = sumFrom s (Z.drop k)) (ha : addOf s Z[k] = (q, true)) :
    SumRel Z w (.int .i64 q) (.int .i64 ((k : Int) + 1)) w := by
  have hq := addOf_in s Z[k]
  rw [ha] at hq
  refine ⟨k + 1, q, by simp, rfl, hk, hq.1, hq.2, ?_, rfl⟩
  rw [he, List.drop_eq_getElem_cons hk, sumFrom, ha]; rfl
set_option maxRecDepth 100000 in
theorem sum_stop {Z : List Int} {k : Nat} {s q : Int} (hk : k < Z.length) (he : sumFrom 0 Z = sumFrom s (Z.drop k)) (ha : addOf s Z[k] = (q, false)) : sumFrom 0 Z = (0, false) := by
  rw [he, List.drop_eq_getElem_cons hk, sumFrom, ha]; rfl
set_option maxRecDepth 100000 in
theorem drewN_drewN (w : World) (n m : Nat) : (w.drewN n).drewN m = w.drewN (n + m) := by
  unfold World.drewN; simp only [Nat.add_assoc]
set_option maxRecDepth 100000 in
theorem drawn_more {w wr : World} {n : Nat} (h : wr = w.drewN n) (m : Nat) : ∃ k, wr.drewN m = w.drewN k := ⟨n + m, by rw [h]; exact drewN_drewN _ _ _⟩
/-- The sum of the products up to place k. -/
def DotRel (A B : List Int) (w : World) (t i : Value) (wr : World) : Prop :=
  ∃ (k : Nat) (s : Int), i = .int .i64 (k : Int) ∧ t = .int .i64 s ∧ k ≤ A.length ∧ 0 ≤ s ∧ s ≤ 9223372036854775807 ∧ dotFrom 0 A B = dotFrom s (A.drop k) (B.drop k) ∧ ∃ n, wr = w.drewN n
set_option maxRecDepth 100000 in
theorem dot_next {A B : List Int} {k : Nat} {s p : Int} {b : Bool} (ha : k < A.length) (hb : k < B.length) (he : dotFrom 0 A B = dotFrom s (A.drop k) (B.drop k)) (hm : mulOf A[k] B[k] = (p, b)) :
    dotFrom 0 A B = bif b then (bif (addOf s p).2 then dotFrom (addOf s p).1 (A.drop (k + 1)) (B.drop (k + 1)) else (0, false)) else (0, false) := by
  rw [he, List.drop_eq_getElem_cons ha, List.drop_eq_getElem_cons hb, dotFrom, hm]
set_option maxRecDepth 100000 in
theorem dotRel_step {A B : List Int} {w wr : World} {k : Nat} {s p q : Int} (ha : k < A.length) (hb : k < B.length) (he : dotFrom 0 A B = dotFrom s (A.drop k) (B.drop k)) (hm : mulOf A[k] B[k] = (p, true)) (hq : addOf s p = (q, true)) (hw : ∃ n, wr = w.drewN n) :
    DotRel A B w (.int .i64 q) (.int .i64 ((k : Int) + 1)) wr := by
  have h1 := addOf_in s p
  rw [hq] at h1
  refine ⟨k + 1, q, by simp, rfl, ha, h1.1, h1.2, ?_, hw⟩
  rw [dot_next ha hb he hm, hq]; rfl
set_option maxRecDepth 100000 in
theorem dot_apart {A B : List Int} (h : A.length ≠ B.length) : ∀ t, dotFrom t A B = (0, false) := by
  induction A generalizing B with
  | nil => intro t; cases B with | nil => exact absurd rfl h | cons b B => rfl
  | cons a A ih =>
    intro t
    cases B with
    | nil => rfl
    | cons b B =>
      rw [dotFrom, ih (by simpa using h)]
      cases (mulOf a b).2 <;> cases (addOf t (mulOf a b).1).2 <;> rfl
set_option maxRecDepth 100000 in
set_option maxHeartbeats 400000 in
theorem dot_any (v x : Value) (A B : List Int) (w : World) (hv : intsAt w v A) (hx : intsAt w x B) (hA : A.length ≤ maxLen) (ha : in64 A) (hb : in64 B) :
    Calls Try.prog 33 #[v, x] w fun e w' => e = .returned (.tuple #[.int .i64 (dotFrom 0 A B).1, .bool (dotFrom 0 A B).2]) ∧ ∃ n, w' = w.drewN n := by
  obtain ⟨aA, capA, rfl, hcA⟩ := hv
  obtain ⟨aB, capB, rfl, hcB⟩ := hx
  have HA := Lib.hid hcA; have HB := Lib.hid hcB
  clear hcA hcB
  unfold maxLen at hA
  by_cases hl : A.length = B.length
  case neg =>
    have hst := dot_apart hl 0
    have hlI : ¬ ((A.length : Int) = (B.length : Int)) := by omega
    go_enter Try.func33, Try.ntmps33
    go_wp2
    go_ret2
    rw [hst]
    exact ⟨rfl, 0, rfl⟩
  go_enter Try.func33, Try.ntmps33
  rw [← hl]
  have HL := Lib.hid hl
  clear hl
  go_wp2
  go_loopw [6, 17] (fun t i wr => DotRel A B w t i wr) (fun _ i _ => A.length + 1 - (intOf i).toNat)
  case atStart => exact ⟨0, 0, rfl, rfl, by omega, by decide, by decide, rfl, 0, rfl⟩
  case round =>
    obtain ⟨k, s, rfl, rfl, hk, hs0, hs1, he, n, hwr⟩ := hrel
    have HE := Lib.hid he; have HW := Lib.hid hwr
    clear he hwr
    by_cases hgo : k < A.length
    · have hgo2 : k < B.length := by rw [← HL.out]; exact hgo
      have hkI : (k : Int) < (A.length : Int) := by omega
      obtain ⟨ad, rfl, hba, hcell⟩ := HA.out k hgo
      obtain ⟨ae, rfl, hbb, hcel2⟩ := HB.out k hgo2
      obtain ⟨z0, z1⟩ := ha.at hgo
      obtain ⟨y0, y1⟩ := hb.at hgo2
      have cM := fun w => mul_any A[k] B[k] w z0 z1 y0 y1
      obtain ⟨⟨p, bp⟩, hp⟩ : ∃ r, mulOf A[k] B[k] = r := ⟨_, rfl⟩
      have hpi := mulOf_in A[k] B[k]
      rw [hp] at cM hpi
      have cA := fun w => add_any s p w (by omega) (by omega) (by have := hpi.1; simp only at this; omega) hpi.2
      obtain ⟨⟨q, bq⟩, hq⟩ : ∃ r, addOf s p = r := ⟨_, rfl⟩
      rw [hq] at cA
      have HP := Lib.hid hp; have HQ := Lib.hid hq
      have HN := Lib.hid (dot_next hgo hgo2 HE.out hp)
      clear hp hq
      have e1 : ((k : Int)).toNat = k := by omega
      have e2 : (0 : Int) ≤ (k : Int) := by omega
      replace hcell : wr.cell? (ad.add k) = some (.int .i64 A[k]) := by rw [HW.out]; exact hcell
      replace hcel2 : wr.cell? (ae.add k) = some (.int .i64 B[k]) := by rw [HW.out]; exact hcel2
      cases bp with
      | false =>
        have hst : dotFrom 0 A B = (0, false) := HN.out
        go_wp2
        go_quiet ((go_at_call 37; exact Calls.quiet_of_same (cM _)))
        go_wp2
        go_ret2
        rw [hst]
        exact ⟨rfl, drawn_more HW.out _⟩
      | true =>
        cases bq with
        | false =>
          have hst : dotFrom 0 A B = (0, false) := by rw [HN.out, HQ.out]; rfl
          go_wp2
          go_quiet ((go_at_call 37; exact Calls.quiet_of_same (cM _)))
          go_wp2_with (go_at_call 38; refine (cA _).mono ?_; rintro e w1 ⟨rfl, rfl⟩)
          go_ret2
          rw [hst]
          exact ⟨rfl, drawn_more HW.out _⟩
        | true =>
          go_wp2
          go_quiet ((go_at_call 37; exact Calls.quiet_of_same (cM _)))
          go_wp2_with (go_at_call 38; refine (cA _).mono ?_; rintro e w1 ⟨rfl, rfl⟩)
          go_roundw
          case rel => exact dotRel_step hgo hgo2 HE.out HP.out HQ.out (drawn_more HW.out _)
          case measure => simp [intOf]; omega
    · have hkI : ¬ (k : Int) < (A.length : Int) := by omega
      have hst : dotFrom 0 A B = (s, true) := by rw [HE.out, List.drop_of_length_le (by omega), List.drop_of_length_le (by rw [← HL.out]; omega)]; rfl
      go_wp2
      go_ret2
      exact ⟨rfl, n, HW.out⟩
end Go.Proofs.Ytbacbgpemaldbaa
