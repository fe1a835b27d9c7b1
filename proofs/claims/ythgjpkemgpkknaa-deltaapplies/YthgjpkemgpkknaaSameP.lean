/- The laws' own 'pairs': two rows of the same pairs. -/
import Derived.Test.YthgjpkemgpkknaaAwake
namespace Go.Proofs.Ythgjpkemgpkknaa
open Go.RowKit Go.Maps

def PSRel (n : Nat) (w : World) (i : Value) (wr : World) : Prop := ∃ k m : Nat, i = .int .i64 (k : Int) ∧ k ≤ n ∧ wr = w.drewN m
set_option maxHeartbeats 2000000 in
theorem psame_true (v x : Value) (L : List (Int × Int)) (w : World) (hv : eltsAt pairE w v L) (hx : eltsAt pairE w x L) (hL : L.length ≤ 1000000) :
    Calls Try.prog 13 #[v, x] w fun e w' => e = .returned (.bool true) ∧ Below w.heap.size w w' := by
  have HV := Lib.hid hv
  have HX := Lib.hid hx
  obtain ⟨a, cap, rfl, hc⟩ := hv
  obtain ⟨b, cap2, rfl, hd⟩ := hx
  have HC := Lib.hid hc
  have HD := Lib.hid hd
  clear hc hd
  obtain ⟨N, hN⟩ : ∃ N, L.length = N := ⟨_, rfl⟩
  have HN := Lib.hid hN
  rw [hN] at HV HX hL ⊢
  clear hN
  go_enter Try.func13, Try.ntmps13
  go_wp2
  go_loopw [5] (fun i wr => PSRel N w i wr) (fun i _ => N + 1 - (intOf i).toNat)
  case atStart => exact ⟨0, 0, rfl, by omega, rfl⟩
  case round =>
    obtain ⟨k, m, rfl, hk, hw⟩ := hrel
    have HW := Lib.hid hw
    have HB : Hid (Below w.heap.size w wr) := Lib.hid (by rw [hw]; exact below_drewN' (Below.refl _ _) _)
    clear hw
    by_cases hgo : k < N
    · have hkI : (k : Int) < (N : Int) := by omega
      have hkL : k < L.length := by rw [HN.out]; exact hgo
      obtain ⟨ad, rfl, hx1⟩ := HC.out k hkL
      obtain ⟨ae, rfl, hx2⟩ := HD.out k hkL
      obtain ⟨c0, c1⟩ := pairs_at HV.out HB.out hkL
      obtain ⟨d0, d1⟩ := pairs_at HX.out HB.out hkL
      obtain ⟨z0, z1, hz⟩ : ∃ z0 z1, L[k] = (z0, z1) := ⟨_, _, rfl⟩
      rw [hz] at c0 c1 d0 d1
      simp only at c0 c1 d0 d1
      have hne := pair_neq_no z0 z1
      clear hz hx1 hx2 hkL
      go_wp2
      go_quiet (fail)
      go_wp2
      go_roundw
      case rel => exact ⟨k + 1, m + nq, by simp, hgo, by rw [HW.out, World.drewN_drewN]⟩
      case measure => simp [intOf] <;> omega
    · have hkI : ¬ (k : Int) < (N : Int) := by omega
      go_wp2
      go_ret
      exact ⟨rfl, HB.out⟩
end Go.Proofs.Ythgjpkemgpkknaa
