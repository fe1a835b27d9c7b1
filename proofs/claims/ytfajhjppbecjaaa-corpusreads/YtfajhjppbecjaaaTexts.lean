/- The contract of gluepotref01.Texts. -/
import Derived.Test.YtfajhjppbecjaaaMem
namespace Go.Proofs.Ytfajhjppbecjaaa
open Go.RowKit

def TextsRel (w : World) (A B : List (List UInt8)) (i : Value) (wr : World) : Prop :=
  ∃ k : Nat, k ≤ A.length ∧ i = .int .i64 (k : Int) ∧ (∃ n, wr = w.drewN n) ∧ ∀ j, j < k → A[j]? = B[j]?
set_option maxHeartbeats 400000 in
theorem texts_any (x y : Value) (A B : List (List UInt8)) (w : World) (hx : strsAt w x A) (hy : strsAt w y B) (hA : A.length ≤ 1048576) :
    Calls Try.prog 11 #[x, y] w fun e w' => e = .returned (.bool (decide (A = B))) ∧ ∃ n, w' = w.drewN n := by
  obtain ⟨a, ca, rfl, ha⟩ := hx
  obtain ⟨b, cb, rfl, hb⟩ := hy
  have HA := Lib.hid ha
  have HB := Lib.hid hb
  clear ha hb
  by_cases hl : (A.length : Int) = (B.length : Int)
  · have hlN : A.length = B.length := by omega
    have HL := Lib.hid hlN; clear hlN
    go_enter Try.func11, Try.ntmps11
    go_wp2
    go_loopw [5] (fun i wr => TextsRel w A B i wr) (fun i _ => A.length - (intOf i).toNat)
    case atStart => exact ⟨0, Nat.zero_le _, rfl, ⟨0, rfl⟩, fun j hj => by omega⟩
    case round =>
      obtain ⟨k, hk, rfl, ⟨n, rfl⟩, heq⟩ := hrel
      have HE := Lib.hid heq; clear heq
      by_cases hlt : k < A.length
      · have hltB : k < B.length := by rw [← HL.out]; exact hlt
        obtain ⟨ad, rfl, hca⟩ := HA.out k hlt
        obtain ⟨bd, rfl, hcb⟩ := HB.out k hltB
        unfold tx at hca hcb
        by_cases he : A[k] = B[k]
        · have HEQ := Lib.hid he
          rw [← he] at hcb
          clear he
          go_wp2
          go_quiet (fail)
          go_wp2
          go_roundw
          case rel =>
            refine ⟨k + 1, hlt, rfl, ⟨_, rfl⟩, fun j hj => ?_⟩
            by_cases hjk : j = k
            · subst hjk; rw [List.getElem?_eq_getElem hlt, List.getElem?_eq_getElem hltB, HEQ.out]
            · exact HE.out j (by omega)
          case measure => simp [intOf]; omega
        · have HNE := Lib.hid he
          have hne : (A[k] == B[k]) = false := by simpa using he
          clear he
          go_wp2
          go_quiet (fail)
          go_wp2
          go_ret
          exact ⟨retB (decide_eq_false fun e => HNE.out (by simp only [e])).symm, n + nq, by simp⟩
      · go_wp2
        go_ret
        refine ⟨retB (decide_eq_true ?_).symm, _, rfl⟩
        refine List.ext_getElem? fun j => ?_
        by_cases hj : j < k
        · exact HE.out j hj
        · rw [List.getElem?_eq_none (by omega), List.getElem?_eq_none (by omega)]
  · have hd : decide (A = B) = false := decide_eq_false (fun e => hl (by rw [e]))
    rw [hd]
    go_enter Try.func11, Try.ntmps11
    go_wp2
    go_ret
    exact ⟨rfl, 0, rfl⟩
end Go.Proofs.Ytfajhjppbecjaaa
