/- The walk of SplitJoins. -/
import Derived.Test.YtkkpjbhnakbipaaWordsWalk
namespace Go.Proofs.Ytkkpjbhnakbipaa
open Go.RowKit

def InRel (n : Nat) (w : World) (j : Value) (wr : World) : Prop := ∃ m : Nat, m ≤ n ∧ j = .int .i64 (m : Int) ∧ wr = w
theorem inRel_step {n m : Nat} {w : World} (h : m < n) : InRel n w (.int .i64 ((m + 1 : Nat) : Int)) w := ⟨m + 1, h, rfl, rfl⟩
def JoinRel (w1 : World) (L : List (List UInt8)) (t i : Value) (wr : World) : Prop :=
  ∃ (k : Nat) (tb : ByteArray), k ≤ L.length ∧ i = .int .i64 (k : Int) ∧ t = .string tb ∧ opn (bs tb) = [] ∧ ended (bs tb) = L.take k ∧ tb.size = k + (L.take k).flatten.length ∧ ∃ n, wr = w1.drewN n
theorem flat_take (L : List (List UInt8)) (k : Nat) : (L.take k).flatten.length ≤ L.flatten.length := by
  conv => rhs; rw [← List.take_append_drop k L, List.flatten_append, List.length_append]
  omega
theorem flat_snoc (L : List (List UInt8)) {k : Nat} (h : k < L.length) : (L.take (k + 1)).flatten.length = (L.take k).flatten.length + L[k].length := by
  rw [List.take_succ_eq_append_getElem h, List.flatten_append, List.length_append]; simp
theorem joinRel_step {w2 : World} {L : List (List UInt8)} {k n : Nat} {tb x t1 t2 : ByteArray} {g : UInt8} (hk : k < L.length) (h1 : opn (bs tb) = []) (h2 : ended (bs tb) = L.take k) (h3 : tb.size = k + (L.take k).flatten.length)
    (hx : bs x = L[k]) (hxz : x.size = L[k].length) (hf : bs x ≠ [] ∧ ∀ c ∈ bs x, gapB c = false) (hg : gapB g = true) (ht1 : tb ++ x = t1) (ht2 : t1 ++ (⟨#[g]⟩ : ByteArray) = t2) :
    JoinRel w2 L (.string t2) (.int .i64 ((k + 1 : Nat) : Int)) (w2.drewN n) := by
  have hb : bs t2 = bs tb ++ bs x ++ [g] := by rw [← ht2, ← ht1]; simp [ByteArray.data_append]
  obtain ⟨j1, j2⟩ := join_step h1 hf hg
  rw [← hb] at j1 j2
  refine ⟨k + 1, t2, hk, rfl, rfl, j2, ?_, ?_, n, rfl⟩
  · rw [j1, h2, hx, List.take_succ_eq_append_getElem hk]
  · rw [flat_snoc L hk, ← hxz, ← ht2, ← ht1, ByteArray.size_append, ByteArray.size_append, h3]
    show _ + _ + 1 = _
    omega
theorem gap_at (p : Nat) (h : p < 4) : ∃ g : UInt8, gapB g = true ∧ (⟨#[9, 10, 13, 32]⟩ : ByteArray).extract p (p + 1) = ⟨#[g]⟩ := by
  have : p = 0 ∨ p = 1 ∨ p = 2 ∨ p = 3 := by omega
  rcases this with rfl | rfl | rfl | rfl
  · exact ⟨9, rfl, rfl⟩
  · exact ⟨10, rfl, rfl⟩
  · exact ⟨13, rfl, rfl⟩
  · exact ⟨32, rfl, rfl⟩

set_option maxHeartbeats 1000000 in
theorem splitJoins_walk (a0 : ByteArray) (a1 : Int) (w : World) (w0 : a0.size ≤ maxLen) (w1 : (Lit.int .u8 a1).wf = true) :
    Calls Try.prog 6 #[.string a0, .int .u8 a1] w fun e w' => e = .returned (.bool true) ∧ Below w.heap.size w w' := by
  unfold maxLen at w0
  obtain ⟨q0, q1⟩ := bounds_u8 w1
  clear w1
  by_cases h : 3000 < a0.size
  · go_enter Try.func6, Try.ntmps6
    go_wp2_with (go_at_call 7; refine (awake_any _).mono ?_; rintro e w1 ⟨rfl, hb⟩)
    go_ret
    exact ⟨rfl, hb⟩
  · have hwl := wordsL_len (bs a0)
    have hws := wordsL_size (bs a0)
    have hwf := wordsL_facts (bs a0)
    rw [size_toList] at hwl hws
    obtain ⟨L, hL⟩ : ∃ L, L = wordsL (bs a0) := ⟨_, rfl⟩
    rw [← hL] at hwl hws hwf
    have HL := Lib.hid hL
    have HWF := Lib.hid hwf
    have HWS := Lib.hid hws
    clear hL hwf hws
    go_enter Try.func6, Try.ntmps6
    go_wp2_with fail
    refine (awake_any _).mono ?_
    rintro e w1 ⟨rfl, hb1⟩
    go_wp2_with fail
    refine (words_any a0 _ (by omega)).mono ?_
    rintro e w2 ⟨r2, rfl, hown2, hb2⟩
    rw [← HL.out] at hown2
    have HO2 := Lib.hid hown2
    obtain ⟨aL, cL, hr2, hcL⟩ := hown2.reads
    subst hr2
    have HCL := Lib.hid hcL
    clear hown2 hcL
    go_wp2
    go_loopw [6, 7] (fun t i wr => JoinRel w2 L t i wr) (fun _ i _ => L.length - (intOf i).toNat)
    case atStart => exact ⟨0, ⟨#[]⟩, Nat.zero_le _, rfl, rfl, rfl, rfl, rfl, 0, rfl⟩
    case round =>
      obtain ⟨k, tb, hk, rfl, rfl, hT1, hT2, hT3, n, rfl⟩ := hrel
      have hft := flat_take L k
      have htb : tb.size ≤ 6001 := by have := HWS.out; omega
      have HT1 := Lib.hid hT1; have HT2 := Lib.hid hT2; have HT3 := Lib.hid hT3
      clear hT1 hT2 hT3 hft
      by_cases hlt : k < L.length
      · obtain ⟨ad, rfl, hcell⟩ := HCL.out k hlt
        unfold tx at hcell
        have hf1 := flat_snoc L hlt
        have hf2 := flat_take L (k + 1)
        obtain ⟨x, hx⟩ : ∃ x : ByteArray, x = ⟨L[k].toArray⟩ := ⟨_, rfl⟩
        have hxl : bs x = L[k] := by rw [hx]
        have hxz : x.size = L[k].length := by rw [← hxl]; exact (size_toList x).symm
        have hxs : x.size ≤ 3001 := by have := HWS.out; omega
        have hsum : tb.size + x.size ≤ 3001 := by have := HWS.out; have := HT3.out; omega
        have hfc := HWF.out L[k] (List.getElem_mem hlt)
        rw [← hxl] at hfc
        have hx0 : x.size ≠ 0 := by intro e; exact hfc.1 (List.eq_nil_of_length_eq_zero (by rw [size_toList]; exact e))
        rw [← hx] at hcell
        have HX := Lib.hid hxl; have HXZ := Lib.hid hxz; have HFC := Lib.hid hfc
        clear hx hxl hxz hf1 hf2 hfc
        have hk3 : (k : Int) ≤ 3000 := by omega
        have hxe : x.toList.isEmpty = false := by
          rw [ByteArray.toList_eq]
          cases hb : x.data.toList with
          | nil => exact absurd (by rw [← size_toList, hb]; rfl) hx0
          | cons a l => rfl
        have hc1 : ¬ (9223372036854775807 < tb.size + x.size) := by omega
        obtain ⟨t1, ht1⟩ : ∃ t1, tb ++ x = t1 := ⟨_, rfl⟩
        have ht1s : t1.size ≤ 3001 := by rw [← ht1, ByteArray.size_append]; omega
        obtain ⟨p, hp⟩ : ∃ p : Nat, (p : Int) = (a1 + (k : Int)) % 4 := ⟨((a1 + (k : Int)) % 4).toNat, by omega⟩
        obtain ⟨gc, hgc1, hgc2⟩ := gap_at p (by omega)
        have wa1 : IntKind.i64.wrap a1 = a1 := IntWalk.i64_in _ (by omega)
        have wa2 : IntKind.i64.wrap (a1 + (k : Int)) = a1 + (k : Int) := IntWalk.i64_in _ (by omega)
        have wm : (a1 + (k : Int)).tmod 4 = (p : Int) := by rw [hp]; exact Int.tmod_eq_emod_of_nonneg (by omega)
        have wp : IntKind.i64.wrap ((p : Int) + 1) = (p : Int) + 1 := IntWalk.i64_in _ (by omega)
        have hp4 : p < 4 := by omega
        have hsl : ∀ w, (Instr.slice 9 (.string ⟨#[9, 10, 13, 32]⟩) (some (.int .i64 (p : Int))) (some (.int .i64 ((p : Int) + 1))) none).run Try.prog w = .ok (.string ⟨#[gc]⟩) w := fun w => by
          rw [run_slice_string w 9 _ .i64 .i64 p (p + 1) Try.underlying9 (by omega) (by omega) (by show _ ≤ ((4 : Nat) : Int); omega), ← hgc2]
          congr 2
        have hc2 : ¬ (9223372036854775807 < t1.size + 1) := by omega
        obtain ⟨t2, ht2⟩ : ∃ t2, t1 ++ (⟨#[gc]⟩ : ByteArray) = t2 := ⟨_, rfl⟩
        have ht2s : (t2.size : Int) ≤ 3002 := by rw [← ht2, ByteArray.size_append]; show ((t1.size + 1 : Nat) : Int) ≤ _; omega
        have h7 : ¬ (7000 : Int) < (t2.size : Int) := by omega
        clear hgc2
        have HT := Lib.hid ht1; have HU := Lib.hid ht2
        have HP := Lib.hid hp; have HGC := Lib.hid hgc1; clear hp hgc1
        go_wp2_with fail
        go_loopw [8] (fun j wr => InRel x.size (w2.drewN n) j wr) (fun j _ => x.size - (intOf j).toNat)
        case atStart => exact ⟨0, Nat.zero_le _, rfl, rfl⟩
        case round =>
          obtain ⟨m, hm, rfl, hwr⟩ := hrel
          subst hwr
          by_cases hml : m < x.size
          · have HG : Hid (gapB x[m] = false) := Lib.hid (HFC.out.2 _ (by
              have : x[m] = (bs x)[m]'(by rw [size_toList]; exact hml) := rfl
              rw [this]; exact List.getElem_mem _))
            go_wp2_with (go_at_call 11; refine (gap_no _ _ HG.out).mono ?_; rintro e w' ⟨rfl, rfl⟩)
            go_roundw
            case rel => exact inRel_step hml
            case measure => simp [intOf]; omega
          · go_wp2_with fail
            go_quiet (fail)
            go_wp2
            go_roundw
            case rel => exact joinRel_step hlt HT1.out HT2.out HT3.out HX.out HXZ.out HFC.out HGC.out HT.out HU.out
            case measure => simp [intOf]; omega
      · have HW : Hid (wordsL (bs tb) = L) := Lib.hid (by unfold wordsL; rw [HT1.out, HT2.out, List.take_of_length_le (by omega)]; simp [endL])
        go_wp2_with fail
        refine (words_any tb _ (by omega)).mono ?_
        rintro e w3 ⟨r3, rfl, hown3, hb3⟩
        rw [HW.out] at hown3
        have hO2 : ownS (w2.drewN n) w1.heap.size (.slice aL L.length cL) L := HO2.out
        go_wp2_with fail
        refine (texts_any _ _ L L _ hown3.reads (hO2.below hb3 (Nat.le_refl _)).reads (by omega)).mono ?_
        rintro e w4 ⟨rfl, n4, rfl⟩
        have hd : decide (L = L) = true := decide_eq_true rfl
        rw [hd]; clear hd
        go_wp2
        go_ret
        have s1 := hb1.size
        have s2 := Nat.le_trans s1 hb2.size
        exact ⟨rfl, below_drewN' ((below_drewN' (hb1.trans (hb2.mono s1)) n).trans (hb3.mono s2)) n4⟩
end Go.Proofs.Ytkkpjbhnakbipaa
