/- The contract of gluepotref01.Take. -/
import Derived.Test.YtoiboofdafgnfaaTake
import Derived.Deep.QuietTactic
import Derived.BigQuiet
import Derived.IntWalk
namespace Go.Proofs.Ytoiboofdafgnfaa
open Go.RowKit

theorem digRef_yes (b : UInt8) (h : dk b = true) : digRef (b.toNat : Int) = (dv b : Int) := by
  rw [← dv_int]; unfold dk isDig at h; simp at h; unfold digRef digVal; split <;> (try split) <;> omega
theorem digRef_no (b : UInt8) (h : dk b = false) : digRef (b.toNat : Int) = -1 := by
  unfold dk isDig at h; simp at h; unfold digRef; split <;> (try split) <;> omega
theorem refDigit_at (b : UInt8) (w : World) :
    Calls Try.prog 12 #[.int .u8 (b.toNat : Int)] w fun e w' => e = .returned (.int .i64 (digRef (b.toNat : Int))) ∧ w' = w :=
  (refDigit_any (b.toNat : Int) w (by omega) (by have := b.toNat_lt; omega)).mono fun _ _ ⟨h, g⟩ => ⟨h, g.symm⟩

def RefTakeRel (s : ByteArray) (w : World) (v i : Value) (wr : World) : Prop :=
  ∃ (k : Nat), k ≤ s.size ∧ k % 2 = 0 ∧ (∀ j (hj : j < s.size), j < k → dk s[j] = true) ∧ i = .int .i64 (k : Int) ∧ ownB wr w.heap.size 5 v (dec (s.data.toList.take k)) ∧ Below w.heap.size w wr

theorem refTake_step {s : ByteArray} {w wr : World} {k : Nat} {v : Value} (hk : k + 1 < s.size) (hev : k % 2 = 0) (hall : ∀ j (hj : j < s.size), j < k → dk s[j] = true) (hx : dk s[k] = true) (hy : dk s[k + 1] = true)
    (hown : wr.ownsRow w.heap.size 5 1 v ((dec (s.data.toList.take k)).length + 1) (bcells (dec (s.data.toList.take k)) ++ [.int .u8 (16 * digRef (s[k].toNat : Int) + digRef (s[k + 1].toNat : Int))])) (hb : Below w.heap.size w wr) :
    RefTakeRel s w v (.int .i64 ((k : Int) + 2)) wr := by
  refine ⟨k + 2, by omega, by omega, fun j hj h => ?_, by simp, ?_, hb⟩
  · by_cases e : j = k
    · subst e; exact hx
    · by_cases e : j = k + 1
      · subst e; exact hy
      · exact hall j hj (by omega)
  · have e3 : s.data.toList.take (k + 2) = s.data.toList.take k ++ [s[k], s[k + 1]] := by
      rw [take_snoc s (k + 1) hk, take_snoc s k (by omega)]; simp
    have e4 : dec (s.data.toList.take (k + 2)) = dec (s.data.toList.take k) ++ [UInt8.ofNat (16 * dv s[k] + dv s[k + 1])] := by
      rw [e3, dec_snoc2 _ _ _ (by rw [take_len s _ (by omega)]; exact hev)]
    unfold ownB
    rw [e4, List.length_append, bcells_append]
    have ha := dv_bd s[k]; have hb' := dv_bd s[k + 1]
    have e5 : bcells [UInt8.ofNat (16 * dv s[k] + dv s[k + 1])] = [.int .u8 (16 * digRef (s[k].toNat : Int) + digRef (s[k + 1].toNat : Int))] := by
      have : (UInt8.ofNat (16 * dv s[k] + dv s[k + 1])).toNat = 16 * dv s[k] + dv s[k + 1] := by simp; omega
      rw [digRef_yes _ hx, digRef_yes _ hy]
      simp only [bcells, List.map_cons, List.map_nil, this]
      congr 2
    rw [e5]
    exact hown

set_option maxHeartbeats 1000000 in
theorem refTake_any (s : ByteArray) (w : World) (hs : s.size ≤ 1048576) :
    Calls Try.prog 10 #[.string s] w fun e w' => e = .returned (.tuple #[.string ⟨(takeT s.data.toList).toArray⟩, .bool (takeOk s.data.toList)]) ∧ Below w.heap.size w w' := by
  obtain ⟨i0, hi, hz0, hz1, hz2⟩ := info_parts Try.info5
  by_cases hodd : s.size % 2 = 1
  · have HB := Lib.hid (takeOk_odd (l := s.data.toList) (by simpa using hodd))
    have h1 : ((s.size : Int) % 2 != 0) = true := by rw [bne_iff_ne]; omega
    clear hodd
    go_enter Try.func10, Try.ntmps10
    go_wp2
    go_ret2
    exact ⟨ret_text2 (takeT_bad HB.out).symm HB.out.symm, Below.refl _ _⟩
  · have h1 : ((s.size : Int) % 2 != 0) = false := by rw [bne_eq_false_iff_eq]; omega
    have HE := Lib.hid (show s.size % 2 = 0 from by omega)
    clear hodd
    go_enter Try.func10, Try.ntmps10
    go_wp2
    go_loopw [4, 5] (fun v i wr => RefTakeRel s w v i wr) (fun _ i _ => s.size - (intOf i).toNat)
    case atStart => exact ⟨0, by omega, by omega, by omega, rfl, World.ownsRow_nil _ _ _ _, Below.refl _ _⟩
    case round =>
      obtain ⟨k, hk, hev, hall, rfl, hownr, hbel⟩ := hrel
      have hdl : (dec (s.data.toList.take k)).length ≤ 1048576 := by rw [dec_len, List.length_take, Array.length_toList]; have : s.data.size = s.size := rfl; omega
      have hsz := hbel.size
      have HV := Lib.hid hev; clear hev
      by_cases hlt : k < s.size
      · have hlt2 : k + 1 < s.size := by have := HE.out; have := HV.out; omega
        have HA := Lib.hid hall; clear hall
        have e1 : IntKind.i64.wrap ((k : Int) + 1) = (k : Int) + 1 := IntWalk.i64_in _ (by omega)
        have e2 : ((k : Int) + 1).toNat = k + 1 := by omega
        have e3 : (0 : Int) ≤ (k : Int) + 1 := by omega
        have e4 : (k : Int) + 1 < (s.size : Int) := by omega
        by_cases hx : dk s[k] = true
        · have x0 : 0 ≤ digRef (s[k].toNat : Int) := by rw [digRef_yes _ hx]; omega
          have x1 : digRef (s[k].toNat : Int) ≤ 15 := by rw [digRef_yes _ hx]; have := dv_bd s[k]; omega
          have HX := Lib.hid hx; clear hx
          by_cases hy : dk s[k + 1] = true
          · have y0 : 0 ≤ digRef (s[k + 1].toNat : Int) := by rw [digRef_yes _ hy]; omega
            have y1 : digRef (s[k + 1].toNat : Int) ≤ 15 := by rw [digRef_yes _ hy]; have := dv_bd s[k + 1]; omega
            have HY := Lib.hid hy; clear hy
            go_wp2
            go_quiet ((go_at_call 12; exact Calls.quiet_of_same (refDigit_at _ _)))
            clear e1
            have hownq : (wr.drewN nq).ownsRow w.heap.size 5 1 u4 _ _ := hownr
            have hbq := below_drewN hbel nq
            go_wp2_with (at_builtin; refine wpList_append_lies _ rfl (.tmp 33) (.tmp 39) 31 rfl w.heap.size 5 i0 (.int .u8 0) 1 1 Try.underlying31 hi hz0 hz1 hz2 rfl (by decide) u4 _ (bcells (dec (s.data.toList.take k))) rfl (World.ownsRow.alloc hownq _) _ 1 1 [.int .u8 _] rfl rfl (cell_one_new _ _ _) (by intro u hu; simp at hu; subst hu; rfl) (by decide) (by unfold maxLen; omega) (by omega) (Nat.le_trans hbq.size (by simp)) _ rfl ?_; intro g cap w2 hown3 hgr3 hat3 hlt3)
            have hO := refTake_step hlt2 HV.out HA.out HX.out HY.out hown3 ((hbq.alloc hbq.size _).grown hgr3 (Nat.le_trans hbq.size (by simp)) (ownB.block_ge hownr))
            go_roundw
            case rel => exact hO
            case measure => simp [intOf]; omega
          · have hy' : dk s[k + 1] = false := by simpa using hy
            have y0 : digRef (s[k + 1].toNat : Int) < 0 := by rw [digRef_no _ hy']; omega
            have HB := Lib.hid (takeOk_bad (l := s.data.toList) (k := k + 1) (by simpa using hlt2) hy')
            clear hy hy'
            go_wp2
            go_quiet ((go_at_call 12; exact Calls.quiet_of_same (refDigit_at _ _)))
            clear e1
            go_wp2
            go_ret2
            exact ⟨ret_text2 (takeT_bad HB.out).symm HB.out.symm, below_drewN hbel _⟩
        · have hx' : dk s[k] = false := by simpa using hx
          have x0 : digRef (s[k].toNat : Int) < 0 := by rw [digRef_no _ hx']; omega
          have HB := Lib.hid (takeOk_bad (l := s.data.toList) (k := k) (by simpa using hlt) hx')
          clear hx hx'
          go_wp2
          go_quiet ((go_at_call 12; exact Calls.quiet_of_same (refDigit_at _ _)))
          clear e1
          go_wp2
          go_ret2
          exact ⟨ret_text2 (takeT_bad HB.out).symm HB.out.symm, below_drewN hbel _⟩
      · have hks : k = s.size := by omega
        subst hks
        have HA := Lib.hid hall; clear hall
        have hc := ownB.text (P := Try.prog) hownr 31 9 Try.underlying31 Try.underlying5 Try.underlying9
        have HO := Lib.hid (takeOk_all (l := s.data.toList) (by simpa using HE.out) (fun j hj => HA.out j (by simpa using hj) (by simpa using hj)))
        have HT : Hid (s.data.toList.take s.size = s.data.toList) := Lib.hid (put_all s _ (by omega))
        go_wp2
        go_ret2
        exact ⟨ret_text2 (by rw [HT.out, takeT_ok HO.out]) HO.out.symm, hbel⟩
end Go.Proofs.Ytoiboofdafgnfaa
