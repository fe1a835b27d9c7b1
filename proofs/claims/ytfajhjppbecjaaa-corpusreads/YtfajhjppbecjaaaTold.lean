/- The contract of gluepotref04.Told. -/
import Derived.Test.YtfajhjppbecjaaaScript
namespace Go.Proofs.Ytfajhjppbecjaaa
open Go.RowKit

def ToldRel (w : World) (P : List (List UInt8)) (f : Int) (out i : Value) (wr : World) : Prop :=
  ∃ k : Nat, k ≤ P.length ∧ i = .int .i64 (k : Int) ∧ ownS wr w.heap.size out (full (P.take k)) ∧ Below w.heap.size w wr ∧ ¬ (0 ≤ f ∧ f < (k : Int))
theorem ahead_at {P : List (List UInt8)} {f : Int} {k : Nat} (h : f = (k : Int)) (hk : k ≤ P.length) : ahead P f = P.take k ∧ failing P f = 3 := by
  subst h
  unfold ahead failing
  rw [if_pos (by omega), if_pos (by omega)]
  exact ⟨by simp, rfl⟩
theorem ahead_all {P : List (List UInt8)} {f : Int} (h : ¬ (0 ≤ f ∧ f < (P.length : Int))) (hk : ¬ f = (P.length : Int)) : ahead P f = P ∧ failing P f = 0 := by
  unfold ahead failing
  rw [if_neg (by omega), if_neg (by omega)]
  exact ⟨rfl, rfl⟩
set_option maxHeartbeats 1000000 in
theorem told_any (x : Value) (f : Int) (P : List (List UInt8)) (w : World) (hx : strsAt w x P) (hn : P.length ≤ 1048576) :
    Calls Try.prog 16 #[x, .int .i64 f] w fun e w' => ∃ r, e = .returned (.tuple #[r, .int .i64 (failing P f : Int)]) ∧ ownS w' w.heap.size r (full (ahead P f)) ∧ Below w.heap.size w w' := by
  obtain ⟨j0, hj, hy0, hy1, hy2⟩ := info_parts Try.info9
  have HX := Lib.hid hx
  obtain ⟨aP, cP, rfl, hrP⟩ := hx
  clear hrP
  go_enter Try.func16, Try.ntmps16
  go_wp2
  go_loopw [6, 7] (fun out i wr => ToldRel w P f out i wr) (fun _ i _ => P.length - (intOf i).toNat)
  case atStart => exact ⟨0, Nat.zero_le _, rfl, World.ownsRow_nil _ _ _ _, Below.refl _ _, by omega⟩
  case round =>
    obtain ⟨k, hk, rfl, hown, hbel, hf⟩ := hrel
    have HO := Lib.hid hown
    have HF := Lib.hid hf
    clear hf
    by_cases hlt : k < P.length
    · by_cases hfk : (k : Int) = f
      · have HA := Lib.hid (ahead_at (P := P) hfk.symm hk)
        clear hown
        go_wp2
        go_ret2
        exact ⟨_, by rw [HA.out.2]; rfl, by rw [HA.out.1]; exact HO.out, hbel⟩
      · obtain ⟨aR, cR, eR, hcR⟩ := HX.out.below_in hbel (Nat.le_refl _)
        cases eR
        obtain ⟨ad, rfl, hcell⟩ := hcR k hlt
        clear hcR
        unfold tx at hcell
        by_cases hem : P[k] = []
        · have HM := Lib.hid hem
          rw [hem] at hcell
          clear hem hown
          go_wp2
          go_roundw
          case rel => exact ⟨k + 1, hlt, by simp, by rw [full_skip P hlt HM.out]; exact HO.out, hbel, by have := HF.out; omega⟩
          case measure => simp [intOf]; omega
        · have HM := Lib.hid hem
          have hfl := full_len (P.take k)
          rw [List.length_take] at hfl
          obtain ⟨x, hx⟩ : ∃ x : ByteArray, x = ⟨P[k].toArray⟩ := ⟨_, rfl⟩
          have hxb : x.toList.isEmpty = false := some_text (by rw [hx]; exact hem)
          rw [← hx] at hcell
          have HX2 := Lib.hid hx
          have hownb : wr.ownsRow w.heap.size 9 1 u6 (full (P.take k)).length (scells (full (P.take k))) := HO.out
          have hfl2 : (full (P.take k)).length ≤ 1048576 := by omega
          have hsz := hbel.size
          clear hem hown hx hfl
          go_wp2_with (at_builtin; refine wpList_append_lies _ rfl (.tmp 23) (.tmp 28) 22 rfl w.heap.size 9 j0 (.string ⟨#[]⟩) 1 16 Try.underlying22 hj hy0 hy1 hy2 rfl (by decide) _ _ (scells (full (P.take k))) rfl (World.ownsRow.alloc hownb _) _ 1 1 [.string x] rfl rfl (cell_one_new _ _ _) (by intro u hu; simp at hu; subst hu; rfl) (by decide) (by unfold maxLen; omega) (by omega) (Nat.le_trans hsz (by simp)) _ rfl ?_; intro g3 cap3 w2 hown3 hgr3 hat3 hlt3; have hgr4 := grown_alloc (n := 0) hgr3; clear hgr3)
          go_roundw
          case rel =>
            refine ⟨k + 1, hlt, by simp, ?_, hbel.grown hgr4 hsz (fun g hg => (HO.out.lt g hg).1), by have := HF.out; omega⟩
            rw [full_next P hlt HM.out]
            exact ownS.app (B := [P[k]]) (by rw [HX2.out] at hown3; exact hown3) rfl
          case measure => simp [intOf]; omega
    · have hkl : P.take k = P := List.take_of_length_le (by omega)
      have hkP : k = P.length := by omega
      by_cases hfe : f = (P.length : Int)
      · have HA := Lib.hid (ahead_at (P := P) (k := P.length) hfe (Nat.le_refl _))
        rw [List.take_length] at HA
        clear hown
        go_wp2
        go_ret2
        exact ⟨_, by rw [HA.out.2]; rfl, by rw [HA.out.1]; rw [hkl] at HO; exact HO.out, hbel⟩
      · have HA := Lib.hid (ahead_all (P := P) (f := f) (by have := HF.out; omega) hfe)
        clear hown
        go_wp2
        go_ret2
        exact ⟨_, by rw [HA.out.2]; rfl, by rw [HA.out.1]; rw [hkl] at HO; exact HO.out, hbel⟩
theorem told_as (x : Value) (f : Int) (P : List (List UInt8)) (w : World) (e : Nat) (W : List (List UInt8)) (h2 : failing P f = e) (h3 : full (ahead P f) = W) (hx : strsAt w x P) (hn : P.length ≤ 1048576) :
    Calls Try.prog 16 #[x, .int .i64 f] w fun q w' => ∃ r, q = .returned (.tuple #[r, .int .i64 (e : Int)]) ∧ ownS w' w.heap.size r W ∧ Below w.heap.size w w' := by
  subst h2; subst h3
  exact told_any x f P w hx hn
end Go.Proofs.Ytfajhjppbecjaaa
