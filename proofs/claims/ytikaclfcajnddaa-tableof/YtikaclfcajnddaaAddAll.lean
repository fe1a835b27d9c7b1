/- AddAll of a counter. -/
import Derived.Test.YtikaclfcajnddaaAdd
namespace Go.Proofs.Ytikaclfcajnddaa
open Go.RowKit Go.Maps

theorem Kept.cell {S : Nat → Prop} {w w' : World} (h : Kept S w w') {a : Addr} (ha : a.block < w.heap.size) (hs : ¬ S a.block) : w'.cell? a = w.cell? a := by
  unfold World.cell?
  rw [h.block a.block ha hs]
/-- Texts that lie apart from a set of blocks. -/
theorem strsAt.keptS {S : Nat → Prop} {w w' : World} {v : Value} {P : List (List UInt8)} (h : strsAt w v P) (hk : Kept S w w') (ha : P.length ≠ 0 → ∀ k, v.ownBlock = some k → ¬ S k) : strsAt w' v P := by
  obtain ⟨a, cap, rfl, hc⟩ := h
  refine ⟨a, cap, rfl, fun j hj => ?_⟩
  obtain ⟨ad, rfl, hc'⟩ := hc j hj
  exact ⟨ad, rfl, (hk.cell (World.block_lt_of_cell? w _ hc') (by rw [add_block]; exact ha (by omega) _ rfl)).trans hc'⟩
def AllRel (K : Nat) (b : Option Nat) (L : Bag) (P : List (List UInt8)) (w : World) (i : Value) (wr : World) : Prop :=
  ∃ (k : Nat) (X : Bag) (b' : Option Nat), i = .int .i64 (k : Int) ∧ k ≤ P.length ∧ addAllW L P = addAllW X (P.drop k) ∧ X.length ≤ L.length + k ∧ Cnt wr K b' X ∧ Kept (mineC K b) w wr ∧ (b' = b ∨ ∃ m, b' = some m ∧ w.heap.size ≤ m)
theorem allRel_step {K : Nat} {b b' : Option Nat} {L X : Bag} {P : List (List UInt8)} {w wr w2 : World} {k : Nat} (hk : k < P.length) (hX : addAllW L P = addAllW X (P.drop k)) (hl : X.length ≤ L.length + k)
    (hkp : Kept (mineC K b) w wr) (hb : b' = b ∨ ∃ m, b' = some m ∧ w.heap.size ≤ m) (h0 : (addW X (ofB P[k]) 1).2 = 0) (hr : AddRet K b' (addW X (ofB P[k]) 1).1 wr w2) : AllRel K b L P w (.int .i64 ((k : Int) + 1)) w2 := by
  obtain ⟨b2, hc, hk2, hb2⟩ := AddRet.trans hkp hb hr
  exact ⟨k + 1, _, b2, by simp, hk, hX.trans (addAll_next hk h0), by have := len_addW X (ofB P[k]) 1; omega, hc, hk2, hb2⟩
set_option maxHeartbeats 1000000 in
theorem caddAll_any (K : Nat) (b : Option Nat) (L : Bag) (v : Value) (P : List (List UInt8)) (w : World) (h : Cnt w K b L) (hv : strsAt w v P) (ha : P.length ≠ 0 → ∀ k, v.ownBlock = some k → ¬ mineC K b k) (hP : ∀ t ∈ P, t.length ≤ 9223372036854775807) (hl : L.length + P.length ≤ 1048576) :
    Calls Try.prog 26 #[.pointer (some ⟨K, 0, none⟩), v] w fun e w' => e = .returned (.int .i64 (addAllW L P).2) ∧ AddRet K b (addAllW L P).1 w w' := by
  have HV := Lib.hid hv
  have HA := Lib.hid ha
  obtain ⟨a, cap, rfl, hc⟩ := hv
  have HN := Lib.hid h
  clear hc h ha
  go_enter Try.func26, Try.ntmps26
  go_wp2
  go_loopw [12] (fun i wr => AllRel K b L P w i wr) (fun i _ => P.length + 1 - (intOf i).toNat)
  case atStart => exact ⟨0, L, b, rfl, by omega, rfl, by omega, HN.out, Kept.refl _ _, .inl rfl⟩
  case round =>
    obtain ⟨k, X, b', rfl, hk, hX, hlX, hcX, hkp, hb'⟩ := hrel
    have HX := Lib.hid hX; have HC := Lib.hid hcX; have HK := Lib.hid hkp; have HB := Lib.hid hb'
    clear hX hcX hkp hb'
    by_cases hgo : k < P.length
    · have hkI : (k : Int) < (P.length : Int) := by omega
      obtain ⟨a', cap', e1, hc⟩ := HV.out.keptS HK.out HA.out
      cases e1
      obtain ⟨ad, rfl, c0⟩ := hc k hgo
      clear hc
      have cA := fun w h => cadd_any K b' X (ofB P[k]) 1 w h (by rw [ofB_size]; exact hP _ (List.getElem_mem hgo)) (by omega) (by omega) (by omega)
      replace c0 : wr.cell? (ad.add k) = some (.string (ofB P[k])) := c0
      have HR : Hid ((addW X (ofB P[k]) 1).2 = 0 ∨ ((addW X (ofB P[k]) 1).2 = 1 ∨ (addW X (ofB P[k]) 1).2 = 5)) := Lib.hid (by
        rcases addW_err X (ofB P[k]) 1 with h | h
        · exact .inl h
        · exact .inr h.2)
      by_cases h0 : (addW X (ofB P[k]) 1).2 = 0
      · have H0 := Lib.hid h0
        rw [h0] at cA
        clear h0
        go_wp2_with fail
        refine (cA _ HC.out).mono ?_
        rintro e w2 ⟨rfl, hr⟩
        have HR2 := Lib.hid hr
        clear hr
        go_wp2
        go_roundw
        case rel => exact allRel_step hgo HX.out hlX HK.out HB.out H0.out HR2.out
        case measure => simp [intOf]; omega
      · have H0 := Lib.hid h0
        have HE : Hid (addAllW L P = addW X (ofB P[k]) 1) := Lib.hid (HX.out.trans (addAll_stop hgo h0))
        obtain ⟨z, hz⟩ : ∃ z, (addW X (ofB P[k]) 1).2 = z := ⟨_, rfl⟩
        rw [hz] at cA h0
        have HZ := Lib.hid hz
        clear hz
        go_wp2_with fail
        refine (cA _ HC.out).mono ?_
        rintro e w2 ⟨rfl, hr⟩
        have HR2 := Lib.hid hr
        clear hr
        go_wp2
        go_ret
        rw [HE.out, HZ.out]
        exact ⟨rfl, AddRet.trans HK.out HB.out HR2.out⟩
    · have hkI : ¬ (k : Int) < (P.length : Int) := by omega
      go_wp2
      go_ret
      rw [HX.out, addAll_end (by omega)]
      exact ⟨rfl, b', HC.out, HK.out, HB.out⟩
end Go.Proofs.Ytikaclfcajnddaa
