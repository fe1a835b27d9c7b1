/- SeqCounts: the law's walk. -/
import Derived.Test.YtdnokkmnpgdplaaSum
namespace Go.Proofs.Ytdnokkmnpgdplaa
open Go.RowKit Go.Maps

def CtRel (w : World) (K g : Nat) (X : List Int) (L : List (Int × Int)) (i : Value) (wr : World) : Prop :=
  ∃ (k : Nat) (Y : List Int), i = .int .i64 (k : Int) ∧ k ≤ L.length + 1 ∧ SeqO wr K g (runX X L (min k L.length)) Y ∧ Below w.heap.size w wr
theorem max_run (n : Nat) (ty : TypeId) (w : World) : (Builtin.max_ #[3, 3] ty #[.int .i64 ((n : Int) - 1), .int .i64 0]).run Try.prog w = .ok (.int .i64 ((n - 1 : Nat) : Int)) w := by
  rw [run_max_int2]
  split
  · obtain rfl : n = 0 := by omega
    rfl
  · rw [show (n : Int) - 1 = ((n - 1 : Nat) : Int) by omega]
set_option maxRecDepth 100000 in
set_option maxHeartbeats 8000000 in
theorem seqCounts_walk (s : ByteArray) (v : Value) (w : World) (L : List (Int × Int)) (hv : eltsAt pairE w v L) (hfit : FitsP L) : Calls Try.prog 6 #[.string s, v] w fun e w' => e = .returned (.bool true) ∧ Below w.heap.size w w' := by
  have HV := Lib.hid hv; have HF := Lib.hid hfit
  obtain ⟨a, c, rfl, _⟩ := hv
  have cW := awake_any w
  clear hfit
  go_enter Try.func6, Try.ntmps6
  go_wp2_with fail
  refine cW.mono ?_
  rintro e w1 ⟨rfl, hb1⟩
  have HB1 := Lib.hid hb1
  clear cW hb1
  by_cases hl : 200 < s.size
  · go_wp2
    go_ret
    exact ⟨rfl, HB1.out⟩
  by_cases hn : 40 < L.length
  · go_wp2
    go_ret
    exact ⟨rfl, HB1.out⟩
  have cN := new_any s w1 (by omega)
  go_wp2_with fail
  refine cN.mono ?_
  rintro e w2 ⟨K, rfl, hs2, hK, hb2⟩
  have HK : Hid (w.heap.size ≤ K ∧ w.heap.size ≤ w1.heap.size) := Lib.hid ⟨Nat.le_trans HB1.out.size hK, HB1.out.size⟩
  have HB2 : Hid (Below w.heap.size w w2) := Lib.hid (HB1.out.trans (hb2.mono HB1.out.size))
  have HS2 : Hid (SeqO w2 K w1.heap.size (runX (syms s) L (min 0 L.length)) []) := Lib.hid (by rw [Nat.zero_min]; exact hs2)
  have hX := syms_len s
  clear cN hK hb2 hs2
  obtain ⟨g, hg⟩ : ∃ g, w1.heap.size = g := ⟨_, rfl⟩
  rw [hg] at HS2 HK
  clear hg
  go_wp2
  go_loopw [6] (fun i wr => CtRel w K g (syms s) L i wr) (fun i _ => L.length + 2 - (intOf i).toNat)
  case atStart => exact ⟨0, [], rfl, Nat.zero_le _, HS2.out, HB2.out⟩
  case round =>
    obtain ⟨k, Y, rfl, hk, hsq, hbel⟩ := hrel
    have HB := Lib.hid hbel
    by_cases hgo : k ≤ L.length
    · rw [Nat.min_eq_left hgo] at hsq
      have hlen := runX_len (syms s) L k
      obtain ⟨X, hXX⟩ : ∃ X, runX (syms s) L k = X := ⟨_, rfl⟩
      rw [hXX] at hsq hlen
      have HXX := Lib.hid hXX
      have HS := Lib.hid hsq
      clear hsq hbel hXX
      have cP := pairs_any K g X Y wr HS.out
      go_wp2_with fail
      refine cP.mono ?_
      rintro e w3 ⟨v3, L3, rfl, ho3, hc3, hl3, hb3⟩
      have HS3 := Lib.hid (HS.out.below hb3)
      have HB3 : Hid (Below w.heap.size w w3) := Lib.hid (HB.out.trans (hb3.mono HB.out.size))
      have HE3 := Lib.hid ho3.reads
      have HN3 := Lib.hid (fun x (hx : x ∈ L3) => ((hc3.2 x.1 x.2).1 hx).2)
      have HC3 := Lib.hid (changes_none_of hc3)
      have HBD := Lib.hid (chg_bound HC3.out (by simp) HS3.out.fewX)
      have HSUM := Lib.hid (chg_sum HC3.out (fun x hx => by simp at hx) HS3.out.fits)
      obtain ⟨a3, c3, rfl, _⟩ := ho3.form
      clear cP ho3 hc3 hb3 HS
      go_wp2
      go_loopw [7, 9] (fun sm i wr => (∃ m : Nat, i = .int .i64 (m : Int) ∧ m ≤ L3.length ∧ sm = .int .i64 (sumC (L3.take m))) ∧ wr = w3) (fun _ i _ => L3.length - (intOf i).toNat)
      case atStart => exact ⟨⟨0, rfl, Nat.zero_le _, rfl⟩, rfl⟩
      case round =>
        obtain ⟨⟨m, rfl, hm, rfl⟩, rfl⟩ := hrel
        by_cases hgm : m < L3.length
        · obtain ⟨ad3, rfl, _, _, ct⟩ := chg_at HE3.out hgm
          obtain ⟨q1, q2⟩ := HN3.out L3[m] (List.getElem_mem _)
          have q3 := cnt_nonneg X L3[m].1
          have q4 : ¬ L3[m].2 < 1 := by omega
          have q5 := HBD.out L3[m] (List.getElem_mem _)
          have q6 := sumC_bound (L := L3.take m) (fun x hx => HBD.out x (List.mem_of_mem_take hx))
          have q7 : ((L3.take m).length : Int) ≤ 1000 := by simp; omega
          have q8 := sumC_take hgm
          have hw1 : IntKind.i64.wrap (sumC (L3.take m) + L3[m].2) = sumC (L3.take (m + 1)) := by rw [q8]; exact IntWalk.i64_in _ (by omega)
          clear q1 q2 q3 q5 q6 q7 q8
          go_wp2
          go_roundw
          case measure => simp [intOf]; omega
          case rel => exact ⟨⟨m + 1, by simp, hgm, rfl⟩, trivial⟩
        · obtain rfl : m = L3.length := by omega
          have hsum : sumC (L3.take L3.length) = ((X.length - 1 : Nat) : Int) := by rw [List.take_length, HSUM.out]; simp
          rw [hsum]
          have cL := len_any K g X Y wr HS3.out
          have cY := symbols_any K g X Y wr HS3.out
          have hmx := fun ty w => max_run X.length ty w
          have hw1 : IntKind.i64.wrap ((X.length : Int) - 1) = (X.length : Int) - 1 := IntWalk.i64_in _ (by omega)
          go_wp2_with fail
          refine cL.mono ?_
          rintro e wz ⟨rfl, rfl⟩
          go_wp2_with fail
          refine cL.mono ?_
          rintro e wz ⟨rfl, rfl⟩
          go_wp2_with fail
          refine cY.mono ?_
          rintro e w4 ⟨r4, rfl, ho4, hb4⟩
          obtain ⟨a4, c4, rfl, _⟩ := ho4.form
          have HS4 := Lib.hid (HS3.out.below hb4)
          have HB4 : Hid (Below w.heap.size w w4) := Lib.hid (HB3.out.trans (hb4.mono HB3.out.size))
          clear cL cY ho4 hb4 HS3 HB3 hsum
          by_cases hlast : k < L.length
          · obtain ⟨ad, rfl⟩ := pair_some HV.out hlast
            obtain ⟨c0, c1⟩ := pairs_at HV.out HB4.out hlast
            have hp := HF.out L[k] (List.getElem_mem _)
            have hw2 : IntKind.i64.wrap (1000 + (k : Int)) = 1000 + (k : Int) := IntWalk.i64_in _ (by omega)
            have cL := len_any K g X Y w4 HS4.out
            have cM := merge_any K g X Y L[k].1 L[k].2 (1000 + (k : Int)) w4 HS4.out hp (by omega)
            go_wp2_with fail
            refine cL.mono ?_
            rintro e w4 ⟨rfl, rfl⟩
            go_wp2_with fail
            refine cM.mono ?_
            rintro e w5 ⟨v5, L5, Y5, rfl, hs5, ho5, hc5, hl5, hk5⟩
            have HB5 : Hid (Below w.heap.size w w5) := Lib.hid (Below.kept HB4.out hk5 (fun i e => by have := HK.out; omega) HB4.out.size)
            have HSUM5 := Lib.hid (chg_sum hc5 HS4.out.fits hs5.fits)
            have HBD5 := Lib.hid (chg_bound hc5 HS4.out.fewX hs5.fewX)
            obtain ⟨X', hX'⟩ : ∃ X', mergeL (L[k].1, L[k].2) (1000 + (k : Int)) X = X' := ⟨_, rfl⟩
            have HX' : Hid (runX (syms s) L (k + 1) = X') := Lib.hid (by rw [runX_succ hlast, HXX.out]; exact hX')
            have hmlen := merge_len (p := (L[k].1, L[k].2)) (s := 1000 + (k : Int)) X
            rw [hX'] at hs5 HSUM5 hmlen
            obtain ⟨nt, hnt⟩ : ∃ nt, timesL (L[k].1, L[k].2) X = nt := ⟨_, rfl⟩
            rw [hnt] at hmlen
            rw [hnt]
            have HS5 := Lib.hid hs5
            have HE5 := Lib.hid ho5.reads
            obtain ⟨a5, c5, rfl, _⟩ := ho5.form
            clear cL cM hs5 ho5 hc5 hk5 c0 c1 HS4 HB4 hX' hnt
            go_wp2
            go_loopw [13, 14] (fun sm i wr => (∃ m : Nat, i = .int .i64 (m : Int) ∧ m ≤ L5.length ∧ sm = .int .i64 (sumC (L5.take m))) ∧ wr = w5) (fun _ i _ => L5.length - (intOf i).toNat)
            case atStart => exact ⟨⟨0, rfl, Nat.zero_le _, rfl⟩, rfl⟩
            case round =>
              obtain ⟨⟨m, rfl, hm, rfl⟩, rfl⟩ := hrel
              by_cases hgm : m < L5.length
              · obtain ⟨ad5, rfl, _, _, ct⟩ := chg_at HE5.out hgm
                have q5 := HBD5.out L5[m] (List.getElem_mem _)
                have q6 := sumC_bound (L := L5.take m) (fun x hx => HBD5.out x (List.mem_of_mem_take hx))
                have q7 : ((L5.take m).length : Int) ≤ 1000 := by simp; omega
                have q8 := sumC_take hgm
                have hw1 : IntKind.i64.wrap (sumC (L5.take m) + L5[m].2) = sumC (L5.take (m + 1)) := by rw [q8]; exact IntWalk.i64_in _ (by omega)
                clear q5 q6 q7 q8
                have hm1 : (m : Int) < 1000 := by omega
                go_wp2
                go_roundw
                case measure => simp [intOf]; omega
                case rel => exact ⟨⟨m + 1, by simp, hgm, rfl⟩, trivial⟩
              · obtain rfl : m = L5.length := by omega
                have hsum : ((X.length - 1 : Nat) : Int) + sumC L5 = ((X'.length - 1 : Nat) : Int) := by rw [HSUM5.out]; omega
                have hw3 : IntKind.i64.wrap (((X.length - 1 : Nat) : Int) + sumC L5) = ((X'.length - 1 : Nat) : Int) := by rw [hsum]; exact IntWalk.i64_in _ (by omega)
                have cL := len_any K g X' Y5 wr HS5.out
                have hmx2 := fun ty w => max_run X'.length ty w
                have hw4 : IntKind.i64.wrap ((X'.length : Int) - 1) = (X'.length : Int) - 1 := IntWalk.i64_in _ (by omega)
                have hneg : ¬ (nt : Int) < 0 := by omega
                clear hsum
                go_wp2_with fail
                refine cL.mono ?_
                rintro e wr ⟨rfl, rfl⟩
                go_wp2
                go_roundw
                case measure => simp [intOf]; omega
                case rel => exact ⟨k + 1, Y5, by simp, by omega, by rw [Nat.min_eq_left (by omega), HX'.out]; exact HS5.out, HB5.out⟩
          · obtain rfl : k = L.length := by omega
            go_wp2
            go_roundw
            case measure => simp [intOf]
            case rel => exact ⟨L.length + 1, Y, by simp, Nat.le_refl _, by rw [Nat.min_eq_right (by omega), HXX.out]; exact HS4.out, HB4.out⟩
    · go_wp2
      go_ret
      exact ⟨rfl, HB.out⟩
end Go.Proofs.Ytdnokkmnpgdplaa
