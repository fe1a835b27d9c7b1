/- Two rows of numbers are the same (gluepotref01.Ints), without the document's symbols. -/
import Derived.Test.YtnonkhnajloloaaIntE
namespace Go.Proofs.Ytnonkhnajloloaa
open Go.RowKit

set_option maxRecDepth 100000 in
set_option maxHeartbeats 2000000 in
theorem intsq_any (v u : Value) (X : List Int) (w : World) (hv : eltsAt intE w v X) (hu : eltsAt intE w u X) (hl : X.length ≤ 1000) : Calls Try.prog 22 #[v, u] w fun e w' => e = .returned (.bool true) ∧ ∃ n, w' = w.drewN n := by
  have HV := Lib.hid hv; have HU := Lib.hid hu
  obtain ⟨a, ca, rfl, hca⟩ := hv
  obtain ⟨b, cb, rfl, hcb⟩ := hu
  clear hca hcb
  go_enter Try.func22, Try.ntmps22
  go_wp2
  go_loopw [5] (fun i wr => (∃ k : Nat, i = .int .i64 (k : Int) ∧ k ≤ X.length) ∧ ∃ n, wr = w.drewN n) (fun i _ => X.length - (intOf i).toNat)
  case atStart => exact ⟨⟨0, rfl, Nat.zero_le _⟩, 0, rfl⟩
  case round =>
    obtain ⟨⟨k, rfl, hk⟩, n, rfl⟩ := hrel
    by_cases hgo : k < X.length
    · obtain ⟨_, _, e1, hc1⟩ := HV.out
      obtain ⟨rfl, _, rfl⟩ := Value.slice.inj e1
      obtain ⟨_, _, e2, hc2⟩ := HU.out
      obtain ⟨rfl, _, rfl⟩ := Value.slice.inj e2
      obtain ⟨ad, rfl, _, p1⟩ := hc1 k hgo
      obtain ⟨bd, rfl, _, p2⟩ := hc2 k hgo
      have c1 : (w.drewN n).cell? (ad.add k) = some (.int .i64 X[k]) := by have := p1 0 _ rfl; rwa [show k * intE.n + 0 = k by show k * 1 + 0 = k; omega] at this
      have c2 : (w.drewN n).cell? (bd.add k) = some (.int .i64 X[k]) := by have := p2 0 _ rfl; rwa [show k * intE.n + 0 = k by show k * 1 + 0 = k; omega] at this
      clear hc1 hc2 p1 p2 e1 e2
      generalize hwd : w.drewN n = wd at *
      go_wp2_with fail
      go_quiet (fail)
      go_wp2
      go_roundw
      case measure => simp [intOf]; omega
      case rel => exact ⟨⟨k + 1, by simp, hgo⟩, n + nq, by rw [← hwd, World.drewN_drewN]⟩
    · go_wp2
      go_ret
      exact ⟨rfl, _, rfl⟩
end Go.Proofs.Ytnonkhnajloloaa
