/- Of of layer 8. -/
import Derived.Test.YtikaclfcajnddaaRight
import Derived.Test.YtikaclfcajnddaaAddAll
import Derived.Test.YtikaclfcajnddaaFreeze
namespace Go.Proofs.Ytikaclfcajnddaa
open Go.RowKit Go.Maps

theorem len_addAllW : ∀ (P : List (List UInt8)) (X : Bag), (addAllW X P).1.length ≤ X.length + P.length
  | [], X => by simp [addAllW]
  | t :: r, X => by
    have h1 := len_addAllW r (addW X (ofB t) 1).1
    have h2 := len_addW X (ofB t) 1
    unfold addAllW
    simp only [List.length_cons]
    split <;> omega
/-- What Of leaves. -/
def TofRet (P : List (List UInt8)) (w : World) (e : Ending) (w' : World) : Prop := ∃ r, e = .returned (.tuple #[r, .int .i64 (tableW P).2]) ∧ ownW w' w.heap.size r (tableW P).1 ∧ Below w.heap.size w w'
theorem table_yes {P : List (List UInt8)} (h : (addAllW [] P).2 = 0) : tableW P = addAllW [] P := if_pos h
theorem table_no {P : List (List UInt8)} (h : (addAllW [] P).2 ≠ 0) : tableW P = ([], (addAllW [] P).2) := if_neg h
set_option maxHeartbeats 1000000 in
theorem tof_any (v : Value) (P : List (List UInt8)) (w : World) (hv : strsAt w v P) (hP : ∀ t ∈ P, t.length ≤ 9223372036854775807) (hl : P.length ≤ 1000000) :
    Calls Try.prog 16 #[v] w fun e w' => TofRet P w e w' := by
  have HV := Lib.hid hv
  obtain ⟨a, cap, rfl, _⟩ := hv
  go_enter Try.func16, Try.ntmps16
  go_wp2_with fail
  refine (new_any _).mono ?_
  rintro e w1 ⟨rfl, hw1⟩
  have HC : Hid (Cnt w1 w.heap.size none []) := Lib.hid (by rw [hw1]; exact new_cnt w)
  have HB : Hid (Below w.heap.size w w1) := Lib.hid (by rw [hw1]; exact (Below.refl _ w).alloc (Nat.le_refl _) _)
  clear hw1
  have HV1 := Lib.hid (HV.out.below HB.out)
  have HA : Hid (P.length ≠ 0 → ∀ k, (Value.slice a P.length cap).ownBlock = some k → ¬ mineC w.heap.size none k) := Lib.hid (by
    intro h0 k hk hm
    obtain ⟨a', cap', e, hc⟩ := HV.out
    cases e
    obtain ⟨ad, rfl, hc0⟩ := hc 0 (by omega)
    have hlt := World.block_lt_of_cell? w _ hc0
    rw [add_block] at hlt
    simp [Value.ownBlock] at hk
    rcases hm with e | e
    · omega
    · cases e)
  have hK : w.heap.size ≤ w.heap.size := Nat.le_refl _
  have HS := Lib.hid hK
  obtain ⟨K, hK2⟩ : ∃ K, w.heap.size = K := ⟨_, rfl⟩
  rw [hK2] at HC HA ⊢
  have HKE := Lib.hid hK2
  clear hK hK2
  have cA := caddAll_any K none [] _ P _ HC.out HV1.out HA.out hP (by simp; omega)
  have HLN := Lib.hid (len_addAllW P [])
  by_cases h0 : (addAllW [] P).2 = 0
  · have HT := Lib.hid (table_yes h0)
    rw [h0] at cA
    go_wp2_with fail
    refine cA.mono ?_
    rintro e w2 ⟨rfl, b2, hc2, hk2, hb2⟩
    have HC2 := Lib.hid hc2
    have HB2 : Hid (Below w.heap.size w w2) := Lib.hid (HB.out.trans (hk2.below HB.out.size fun k hk => by
      rcases hk with e | e
      · rw [e, HKE.out]; exact Nat.le_refl _
      · cases e))
    clear hc2 hk2 hb2
    go_wp2_with fail
    refine (freeze_any K b2 _ _ HC2.out (by have := HLN.out; simp at this; omega)).mono ?_
    rintro e w3 ⟨r3, rfl, ho3, hb3⟩
    have HO3 := Lib.hid ho3
    have HB3 : Hid (Below w.heap.size w w3) := Lib.hid (HB2.out.trans (hb3.mono HB2.out.size))
    clear ho3 hb3
    have HH0 := Lib.hid h0
    clear h0
    go_wp2
    go_ret2
    exact ⟨_, by rw [HT.out, HH0.out]; rfl, by rw [HT.out]; exact HO3.out.mono HB2.out.size, HB3.out⟩
  · have HT := Lib.hid (table_no h0)
    obtain ⟨z, hz⟩ : ∃ z, (addAllW [] P).2 = z := ⟨_, rfl⟩
    rw [hz] at cA h0
    have HZ := Lib.hid hz
    clear hz
    go_wp2_with fail
    refine cA.mono ?_
    rintro e w2 ⟨rfl, b2, hc2, hk2, hb2⟩
    have HB2 : Hid (Below w.heap.size w w2) := Lib.hid (HB.out.trans (hk2.below HB.out.size fun k hk => by
      rcases hk with e | e
      · rw [e, HKE.out]; exact Nat.le_refl _
      · cases e))
    clear hc2 hk2 hb2
    go_wp2
    go_ret2
    exact ⟨_, by rw [HT.out, HZ.out]; rfl, by rw [HT.out]; exact ownW.nil _ _, HB2.out⟩
end Go.Proofs.Ytikaclfcajnddaa
