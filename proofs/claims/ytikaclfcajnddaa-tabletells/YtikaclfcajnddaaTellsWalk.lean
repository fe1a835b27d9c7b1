/- The walk of TableTells. -/
import Derived.Test.YtikaclfcajnddaaAwake
import Derived.Test.YtikaclfcajnddaaCheck
import Derived.Test.YtikaclfcajnddaaRefCheck
namespace Go.Proofs.Ytikaclfcajnddaa
open Go.RowKit

set_option maxHeartbeats 2000000 in
theorem tableTells_walk (v : Value) (w : World) (L : Bag) (hv : wordsAt w v L) (hL : L.length ≤ maxLen) (hf : Fits L) :
    Calls Try.prog 3 #[v] w fun e w' => e = .returned (.bool true) ∧ Below w.heap.size w w' := by
  have HV := Lib.hid hv
  obtain ⟨a, cap, rfl, _⟩ := hv
  unfold maxLen at hL
  go_enter Try.func3, Try.ntmps3
  go_wp2_with fail
  refine (awake_any _).mono ?_
  rintro e w1 ⟨rfl, hb1⟩
  have HB1 := Lib.hid hb1
  have HV1 := Lib.hid (HV.out.below hb1 (Nat.le_refl _))
  clear hb1
  go_wp2_with fail
  refine (great_any _ L 100 _ HV1.out (by omega)).mono ?_
  rintro e w2 ⟨g, rfl, rfl, hg⟩
  cases g with
  | true =>
    go_wp2
    go_ret
    exact ⟨rfl, HB1.out⟩
  | false =>
    obtain ⟨hl, hs⟩ := hg rfl
    clear hg
    have hby := bytes_few hs
    have cC := fun w h => check_any (.slice a L.length cap) L w h (by omega) hf
    have cD := fun w h => refCheck_any (.slice a L.length cap) L w h (by omega) hf
    obtain ⟨⟨z, ze⟩, hz⟩ : ∃ r, checkOf L = r := ⟨_, rfl⟩
    rw [hz] at cC cD
    have cW := fun w h => weight_any (.slice a L.length cap) L w h (by omega) hf
    have cX := fun w h => refWeight_any (.slice a L.length cap) L w h (by omega) hf
    obtain ⟨⟨q, b⟩, hq⟩ : ∃ r, weighOf L = r := ⟨_, rfl⟩
    rw [hq] at cW cX
    have cP := fun w h => positions_any (.slice a L.length cap) L w h (by omega) (by omega)
    have cQ := fun w h => refPositions_any (.slice a L.length cap) L w h (by omega) (by omega)
    clear hz hq hs hby
    generalize bytesOf L = n at cP cQ
    go_wp2_with fail
    refine (cC _ HV1.out).mono ?_
    rintro e w3 ⟨rfl, hb3⟩
    have HB3 : Hid (Below w.heap.size w w3) := Lib.hid (HB1.out.trans (hb3.mono HB1.out.size))
    have HV3 := Lib.hid (HV.out.below HB3.out (Nat.le_refl _))
    clear hb3
    go_wp2_with fail
    refine (cD _ HV3.out).mono ?_
    rintro e w4 ⟨rfl, n4, hw4⟩
    have HB4 : Hid (Below w.heap.size w w4) := Lib.hid (by rw [hw4]; exact below_drewN' HB3.out n4)
    have HV4 := Lib.hid (HV.out.below HB4.out (Nat.le_refl _))
    clear hw4
    go_wp2_with fail
    refine (cW _ HV4.out).mono ?_
    rintro e w5 ⟨rfl, hb5⟩
    have HB5 : Hid (Below w.heap.size w w5) := Lib.hid (HB4.out.trans (hb5.mono HB4.out.size))
    have HV5 := Lib.hid (HV.out.below HB5.out (Nat.le_refl _))
    clear hb5
    go_wp2_with fail
    refine (cX _ HV5.out).mono ?_
    rintro e w6 ⟨rfl, n6, hw6⟩
    have HB6 : Hid (Below w.heap.size w w6) := Lib.hid (by rw [hw6]; exact below_drewN' HB5.out n6)
    have HV6 := Lib.hid (HV.out.below HB6.out (Nat.le_refl _))
    clear hw6
    go_wp2_with fail
    refine (cP _ HV6.out).mono ?_
    rintro e w7 ⟨rfl, hb7⟩
    have HB7 : Hid (Below w.heap.size w w7) := Lib.hid (HB6.out.trans (hb7.mono HB6.out.size))
    have HV7 := Lib.hid (HV.out.below HB7.out (Nat.le_refl _))
    clear hb7
    go_wp2_with fail
    refine (cQ _ HV7.out).mono ?_
    rintro e w8 ⟨rfl, rfl⟩
    go_wp2
    go_ret
    exact ⟨rfl, HB7.out⟩
end Go.Proofs.Ytikaclfcajnddaa
