/- The walk of TableOf. -/
import Derived.Test.YtikaclfcajnddaaAwake
import Derived.Test.YtikaclfcajnddaaCheck
import Derived.Test.YtikaclfcajnddaaParams
import Derived.Test.YtikaclfcajnddaaTof
import Derived.Test.YtikaclfcajnddaaRefMerge
namespace Go.Proofs.Ytikaclfcajnddaa
open Go.RowKit Go.Maps

/-- Three numbers laid apart, read behind what turns nothing that was there. -/
theorem box3 {w w2 : World} {b m l : Int} (hb : Below (w.alloc (.cells #[.int .i64 b, .int .i64 m, .int .i64 l] 40)).heap.size (w.alloc (.cells #[.int .i64 b, .int .i64 m, .int .i64 l] 40)) w2) :
    w2.cell? ⟨w.heap.size, 0, none⟩ = some (.int .i64 b) ∧ w2.cell? ⟨w.heap.size, 1, none⟩ = some (.int .i64 m) ∧ w2.cell? ⟨w.heap.size, 2, none⟩ = some (.int .i64 l) := by
  have hh := heap_alloc_new w (.cells #[.int .i64 b, .int .i64 m, .int .i64 l] 40)
  have hlt := (Array.getElem?_eq_some_iff.1 hh).1
  exact ⟨(hb.cell hlt).trans (by rw [cell_of_row _ _ 0 _ 40 (0, 0) hh]; rfl), (hb.cell hlt).trans (by rw [cell_of_row _ _ 1 _ 40 (0, 0) hh]; rfl), (hb.cell hlt).trans (by rw [cell_of_row _ _ 2 _ 40 (0, 0) hh]; rfl)⟩
def ShortRel (P : List (List UInt8)) (w : World) (i : Value) (wr : World) : Prop := ∃ k : Nat, i = .int .i64 (k : Int) ∧ k ≤ P.length ∧ wr = w ∧ ∀ j (h : j < P.length), j < k → P[j].length ≤ 100
theorem shortRel_step {P : List (List UInt8)} {k : Nat} (hk : k < P.length) (h : ∀ j (h : j < P.length), j < k → P[j].length ≤ 100) (hs : P[k].length ≤ 100) (w : World) : ShortRel P w (.int .i64 ((k : Int) + 1)) w :=
  ⟨k + 1, by simp, hk, rfl, fun j hj h1 => by
    rcases Nat.lt_or_eq_of_le (Nat.le_of_lt_succ h1) with h2 | rfl
    · exact h j hj h2
    · exact hs⟩
def SomeRel (P : List (List UInt8)) (w : World) (i : Value) (wr : World) : Prop := ∃ k : Nat, i = .int .i64 (k : Int) ∧ k ≤ P.length ∧ wr = w ∧ ∀ j (h : j < P.length), j < k → P[j] ≠ []
theorem someRel_step {P : List (List UInt8)} {k : Nat} (hk : k < P.length) (h : ∀ j (h : j < P.length), j < k → P[j] ≠ []) (hs : P[k] ≠ []) (w : World) : SomeRel P w (.int .i64 ((k : Int) + 1)) w :=
  ⟨k + 1, by simp, hk, rfl, fun j hj h1 => by
    rcases Nat.lt_or_eq_of_le (Nat.le_of_lt_succ h1) with h2 | rfl
    · exact h j hj h2
    · exact hs⟩
theorem strs_cells {w : World} {a : Option Addr} {n cap : Nat} {P : List (List UInt8)} (h : strsAt w (.slice a n cap) P) : ∀ j (h : j < P.length), ∃ ad, a = some ad ∧ w.cell? (ad.add j) = some (.string (ofB P[j])) := by
  obtain ⟨a', cap', e, hc⟩ := h
  cases e
  exact hc
set_option maxRecDepth 100000 in
set_option maxHeartbeats 4000000 in
theorem tableOf_walk (v : Value) (b m l : Int) (w : World) (P : List (List UInt8)) (hv : strsAt w v P) (hP : ∀ t ∈ P, t.length ≤ 9223372036854775807) (hL : P.length ≤ 8796093022208) :
    Calls Try.prog 5 #[v, .agg #[.int .i64 b, .int .i64 m, .int .i64 l]] w fun e w' => e = .returned (.bool true) ∧ Below w.heap.size w w' := by
  have HV := Lib.hid hv
  obtain ⟨a, cap, rfl, _⟩ := hv
  have HB0 : Hid (Below w.heap.size w (w.alloc (.cells #[.int .i64 b, .int .i64 m, .int .i64 l] 40))) := Lib.hid ((Below.refl _ w).alloc (Nat.le_refl _) _)
  go_enter Try.func5, Try.ntmps5
  go_wp2_with fail
  refine (awake_any _).mono ?_
  rintro e w1 ⟨rfl, hb1⟩
  obtain ⟨x0, x1, x2⟩ := box3 hb1
  have HX := Lib.hid hb1
  have HB1 : Hid (Below w.heap.size w w1) := Lib.hid (HB0.out.trans (hb1.mono HB0.out.size))
  clear hb1
  by_cases hl1 : 100 < P.length
  · have hd : decide (100 < P.length) = true := decide_eq_true hl1
    have hlI : (100 : Int) < (P.length : Int) := by omega
    clear hl1
    go_wp2
    go_quiet (fail)
    go_wp2
    go_ret
    exact ⟨rfl, below_drewN' HB1.out _⟩
  · have hd : decide (100 < P.length) = false := decide_eq_false hl1
    have hlI : ¬ (100 : Int) < (P.length : Int) := by omega
    have hd2 : decide ((100 : Int) < (P.length : Int)) = false := decide_eq_false hlI
    have HL := Lib.hid hl1
    clear hl1
    go_wp2
    go_region_held3 (fun w' => w'.cell? ⟨w.heap.size, 0, none⟩ = some (.int .i64 b) ∧ w'.cell? ⟨w.heap.size, 1, none⟩ = some (.int .i64 m) ∧ w'.cell? ⟨w.heap.size, 2, none⟩ = some (.int .i64 l)) (first | exact ⟨x0, x1, x2⟩ | exact ⟨y0, y1, y2⟩ | exact ⟨z0, z1, z2⟩) (first
      | (go_at_call 14; refine (params_any b m l w1.drew).mono ?_; rintro e w2 ⟨rfl, hb2⟩; have HX2 := Lib.hid (HX.out.trans ((below_undrew hb2).mono HX.out.size)); clear hb2; obtain ⟨y0, y1, y2⟩ := box3 HX2.out)
      | (go_at_call 15; refine (refParams_any b m l w2).mono ?_; rintro e w3 ⟨rfl, hb3⟩; have HX3 := Lib.hid (HX2.out.trans (hb3.mono HX2.out.size)); clear hb3; obtain ⟨z0, z1, z2⟩ := box3 HX3.out))
    have HB3 : Hid (Below w.heap.size w w3) := Lib.hid (HB0.out.trans (HX3.out.mono HB0.out.size))
    clear x0 x1 x2 y0 y1 y2 z0 z1 z2
    have HV3 := Lib.hid (HV.out.below HB3.out)
    go_wp2
    go_loopw [5] (fun i wr => ShortRel P w3 i wr) (fun i _ => P.length + 1 - (intOf i).toNat)
    case atStart => exact ⟨0, rfl, by omega, rfl, fun j h hj => by omega⟩
    case round =>
      obtain ⟨k, rfl, hk, hw, hall⟩ := hrel
      subst hw
      have HALL := Lib.hid hall
      clear hall
      by_cases hgo : k < P.length
      · have hkI : (k : Int) < (P.length : Int) := by omega
        obtain ⟨ad, rfl, c0⟩ := strs_cells HV3.out k hgo
        by_cases hs : P[k].length ≤ 100
        · have hsI : ¬ (100 : Int) < ((ofB P[k]).size : Int) := by rw [ofB_size]; omega
          have HS := Lib.hid hs
          clear hs
          go_wp2
          go_roundw
          case rel => exact shortRel_step hgo HALL.out HS.out _
          case measure => simp [intOf]; omega
        · have hsI : (100 : Int) < ((ofB P[k]).size : Int) := by rw [ofB_size]; omega
          clear hs
          go_wp2
          go_ret
          exact ⟨rfl, HB3.out⟩
      · have hkI : ¬ (k : Int) < (P.length : Int) := by omega
        have HS : Hid (∀ t ∈ P, t.length ≤ 100) := Lib.hid (fun t ht => by
          obtain ⟨j, hj, rfl⟩ := List.mem_iff_getElem.1 ht
          exact HALL.out j hj (by omega))
        clear HALL hgo
        have cT := tof_any (.slice a P.length cap) P wr HV3.out hP (by have := HL.out; omega)
        go_wp2_with fail
        refine cT.mono ?_
        rintro e w7 ⟨r7, rfl, ho7, hb7⟩
        have HB7 : Hid (Below w.heap.size w w7) := Lib.hid (HB3.out.trans (hb7.mono HB3.out.size))
        have HV7 := Lib.hid (HV.out.below HB7.out)
        obtain ⟨⟨Y, z⟩, hY⟩ : ∃ r, tableW P = r := ⟨_, rfl⟩
        rw [hY] at ho7 ⊢
        have HY := Lib.hid hY
        have HO7 := Lib.hid ho7
        obtain ⟨a7, cap7, hr7, _⟩ := ho7.form
        clear hb7 ho7 hY
        subst hr7
        go_wp2
        go_loopw [8] (fun i wq => SomeRel P w7 i wq) (fun i _ => P.length + 1 - (intOf i).toNat)
        case atStart => exact ⟨0, rfl, by omega, rfl, fun j h hj => by omega⟩
        case round =>
          obtain ⟨j, rfl, hj, hw, hsome⟩ := hrel
          subst hw
          have HSOME := Lib.hid hsome
          clear hsome
          by_cases hgo : j < P.length
          · have hjI : (j : Int) < (P.length : Int) := by omega
            obtain ⟨ad, rfl, c0⟩ := strs_cells HV7.out j hgo
            by_cases hne : P[j] = []
            · have he : ofB P[j] = ⟨#[]⟩ := by rw [hne]; rfl
              rw [he] at c0
              have ht := table_empty hgo (by have := HL.out; omega) HSOME.out HS.out hne
              rw [HY.out] at ht
              cases ht
              clear he hne
              go_wp2
              go_ret
              exact ⟨rfl, HB7.out⟩
            · have hs' : (ofB P[j]).toList.isEmpty = false := some_text fun e => hne (by simpa [ofB] using e)
              have HN := Lib.hid hne
              clear hne
              go_wp2
              go_roundw
              case rel => exact someRel_step hgo HSOME.out HN.out _
              case measure => simp [intOf]; omega
          · have hjI : ¬ (j : Int) < (P.length : Int) := by omega
            obtain ⟨ht, hck, hft⟩ := table_all (P := P) (by have := HL.out; omega) (fun i h _ => HSOME.out i h (by omega)) HS.out
            rw [HY.out] at ht
            have hYe : Y = ofW [] P := congrArg Prod.fst ht
            have hz : z = 0 := congrArg Prod.snd ht
            subst hz
            have HYE := Lib.hid hYe
            rw [← hYe] at hck hft
            have hlen := len_ofW P []
            rw [List.length_nil, ← hYe] at hlen
            clear ht hYe hgo HSOME
            have hYl : Y.length ≤ 1000000 := by have := HL.out; omega
            clear hlen
            have cC := check_any (.slice a7 Y.length cap7) Y _ HO7.out.reads hYl hft
            rw [hck] at cC
            go_wp2_with fail
            refine cC.mono ?_
            rintro e w8 ⟨rfl, hb8⟩
            have HO8 := Lib.hid (HO7.out.reads.below hb8 (Nat.le_refl _))
            have HB8 : Hid (Below w.heap.size w w8) := Lib.hid (HB7.out.trans (hb8.mono HB7.out.size))
            have HV8 := Lib.hid (HV.out.below HB8.out)
            clear hb8
            have cO := of_any (.slice a P.length cap) P w8 HV8.out hP (by have := HL.out; omega)
            rw [← HYE.out] at cO
            go_wp2_with fail
            refine cO.mono ?_
            rintro e w9 ⟨r9, rfl, ho9, hb9⟩
            have HO9 := Lib.hid (HO8.out.below hb9 (Nat.le_refl _))
            have HR9 := Lib.hid ho9
            have HB9 : Hid (Below w.heap.size w w9) := Lib.hid (HB8.out.trans (hb9.mono HB8.out.size))
            clear ho9 hb9
            go_wp2_with fail
            refine (same_true _ _ Y _ HO9.out HR9.out.reads (by omega)).mono ?_
            rintro e w10 ⟨rfl, n10, hw10⟩
            have HB10 : Hid (Below w.heap.size w w10) := Lib.hid (by rw [hw10]; exact below_drewN' HB9.out n10)
            clear hw10
            go_wp2
            go_ret
            exact ⟨rfl, HB10.out⟩
end Go.Proofs.Ytikaclfcajnddaa
