/- The walk of FreqNone. -/
import Derived.Test.YtikdhlpmoldijaaAwake
import Derived.Test.YtikdhlpmoldijaaRefMerge
namespace Go.Proofs.Ytikdhlpmoldijaa
open Go.RowKit Go.Maps

def NoneRel (P : List (List UInt8)) (w : World) (i : Value) (wr : World) : Prop := ∃ k : Nat, i = .int .i64 (k : Int) ∧ k ≤ P.length ∧ wr = w ∧ ∀ j (h : j < P.length), j < k → P[j] ≠ [] ∧ P[j].length ≤ 100
theorem noneRel_step {P : List (List UInt8)} {k : Nat} (hk : k < P.length) (h : ∀ j (h : j < P.length), j < k → P[j] ≠ [] ∧ P[j].length ≤ 100) (hs : P[k] ≠ [] ∧ P[k].length ≤ 100) (w : World) : NoneRel P w (.int .i64 ((k : Int) + 1)) w :=
  ⟨k + 1, by simp, hk, rfl, fun j hj h1 => by
    rcases Nat.lt_or_eq_of_le (Nat.le_of_lt_succ h1) with h2 | rfl
    · exact h j hj h2
    · exact hs⟩
theorem none_bag {P : List (List UInt8)} {k : Nat} (hk : k ≤ P.length) (hl : P.length ≤ 50) (h : ∀ j (h : j < P.length), j < k → P[j] ≠ [] ∧ P[j].length ≤ 100) (he : ∀ h : k < P.length, P[k] = []) :
    addAllW [] P = (ofW [] (P.take k), if k < P.length then 1 else 0) := by
  refine addAll_upto P [] k 0 sound_nil (fun s => by simp [countOf]) (by omega) hk (fun t ht => ?_) he
  obtain ⟨j, hj, rfl⟩ := List.mem_iff_getElem.1 ht
  rw [List.length_take] at hj
  have := h j (by omega) (by omega)
  rw [List.getElem_take]
  exact ⟨this.1, by omega⟩
theorem len_ofW : ∀ (P : List (List UInt8)) (X : Bag), (ofW X P).length ≤ X.length + P.length
  | [], X => by simp [ofW]
  | t :: r, X => by
    have h1 := len_ofW r (addW X (ofB t) 1).1
    have h2 := len_addW X (ofB t) 1
    unfold ofW
    simp only [List.length_cons]
    omega
theorem strs_head {w : World} {a : Option Addr} {n cap k : Nat} {P : List (List UInt8)} (h : strsAt w (.slice a n cap) P) (hk : k ≤ P.length) : strsAt w (.slice a k cap) (P.take k) := by
  obtain ⟨a', cap', e, hc⟩ := h
  cases e
  refine ⟨a, cap, by rw [List.length_take, Nat.min_eq_left hk], fun j hj => ?_⟩
  rw [List.length_take] at hj
  obtain ⟨ad, rfl, h1⟩ := hc j (by omega)
  exact ⟨ad, rfl, by rw [h1, List.getElem_take]⟩
theorem Cnt.drew {w : World} {K : Nat} {b : Option Nat} {L : Bag} (h : Cnt w K b L) : Cnt w.drew K b L := h.kept fun _ _ _ => rfl
theorem kept_undrew {S : Nat → Prop} {w w' : World} (h : Kept S w.drew w') : Kept S w w' := ⟨h.os, h.tape, h.output, h.size, h.block⟩
set_option maxRecDepth 100000 in
set_option maxHeartbeats 4000000 in
theorem freqNone_walk (v : Value) (w : World) (P : List (List UInt8)) (hv : strsAt w v P) (hcap : ∀ a n c, v = .slice a n c → n ≤ c) (hP : ∀ t ∈ P, t.length ≤ 9223372036854775807) (hL : P.length ≤ 8796093022208) :
    Calls Try.prog 5 #[v] w fun e w' => e = .returned (.bool true) ∧ Below w.heap.size w w' := by
  have HV := Lib.hid hv
  obtain ⟨a, cap, rfl, _⟩ := hv
  have hcp := hcap _ _ _ rfl
  clear hcap
  by_cases h : 50 < P.length
  · go_enter Try.func5, Try.ntmps5
    go_wp2_with (go_at_call 6; refine (awake_any _).mono ?_; rintro e w1 ⟨rfl, hb1⟩)
    go_ret
    exact ⟨rfl, hb1⟩
  · have hI : ¬ (50 : Int) < (P.length : Int) := by omega
    go_enter Try.func5, Try.ntmps5
    go_wp2_with fail
    refine (awake_any _).mono ?_
    rintro e w1 ⟨rfl, hb1⟩
    have HB1 := Lib.hid hb1
    clear hb1
    have HC : Hid (Cnt (w1.alloc (.cells #[.map none] 48)) w1.heap.size none []) := Lib.hid (new_cnt w1)
    have HB2 : Hid (Below w.heap.size w (w1.alloc (.cells #[.map none] 48))) := Lib.hid (HB1.out.alloc HB1.out.size _)
    have HKs : Hid (w.heap.size ≤ w1.heap.size) := Lib.hid HB1.out.size
    obtain ⟨K, hK⟩ : ∃ K, w1.heap.size = K := ⟨_, rfl⟩
    rw [hK] at HC HKs
    obtain ⟨w2, hw2⟩ : ∃ w2, w1.alloc (.cells #[.map none] 48) = w2 := ⟨_, rfl⟩
    rw [hw2] at HC HB2
    go_wp2
    clear hK hw2 HB1
    have HV2 := Lib.hid (HV.out.below HB2.out)
    have HA : Hid (P.length ≠ 0 → ∀ k, (Value.slice a P.length cap).ownBlock = some k → ¬ mineC K none k) := Lib.hid (by
      intro h0 k hk hm
      obtain ⟨a', cap', e, hc⟩ := HV.out
      cases e
      obtain ⟨ad, rfl, hc0⟩ := hc 0 (by omega)
      have hlt := World.block_lt_of_cell? w _ hc0
      rw [add_block] at hlt
      simp [Value.ownBlock] at hk
      have := HKs.out
      rcases hm with e | e
      · omega
      · cases e)
    go_loopw [5] (fun i wr => NoneRel P w2 i wr) (fun i _ => P.length + 1 - (intOf i).toNat)
    case atStart => exact ⟨0, rfl, by omega, rfl, fun j h hj => by omega⟩
    case round =>
      obtain ⟨k, rfl, hk, rfl, hall⟩ := hrel
      have HALL := Lib.hid hall
      clear hall
      have hcells : ∀ j (h : j < P.length), ∃ ad, a = some ad ∧ wr.cell? (ad.add j) = some (.string (ofB P[j])) := by
        obtain ⟨a', cap', e, hc⟩ := HV2.out
        cases e
        exact hc
      have HCE := Lib.hid hcells
      clear hcells
      by_cases hgo : k < P.length ∧ P[k]! ≠ []
      · obtain ⟨hk1, hne⟩ := hgo
        rw [getElem!_pos P k hk1] at hne
        have hkI : (k : Int) < (P.length : Int) := by omega
        obtain ⟨ad, rfl, c0⟩ := HCE.out k hk1
        have hs' : (ofB P[k]).toList.isEmpty = false := some_text fun e => hne (by simpa [ofB] using e)
        by_cases hs : P[k].length ≤ 100
        · have hsI : ¬ (100 : Int) < ((ofB P[k]).size : Int) := by rw [ofB_size]; omega
          have HS := Lib.hid (show P[k] ≠ [] ∧ P[k].length ≤ 100 from ⟨hne, hs⟩)
          clear hs hne
          go_wp2
          go_roundw
          case rel => exact noneRel_step hk1 HALL.out HS.out _
          case measure => simp [intOf]; omega
        · have hsI : (100 : Int) < ((ofB P[k]).size : Int) := by rw [ofB_size]; omega
          clear hs hne
          go_wp2
          go_ret
          exact ⟨rfl, HB2.out⟩
      · have hend : ∀ h : k < P.length, P[k] = [] := fun h => by
          have := hgo
          rw [getElem!_pos P k h] at this
          exact Classical.byContradiction fun e => this ⟨h, e⟩
        have HBAG := Lib.hid (none_bag hk (by omega) HALL.out hend)
        clear hgo
        by_cases hk1 : k < P.length
        case' pos =>
          have hkI : (k : Int) < (P.length : Int) := by omega
          obtain ⟨ad, rfl, c0⟩ := HCE.out k hk1
          have he : ofB P[k] = ⟨#[]⟩ := by rw [hend hk1]; rfl
          rw [he] at c0
          rw [if_pos hk1] at HBAG
          clear he hend
        case' neg =>
          have hkI : ¬ (k : Int) < (P.length : Int) := by omega
          rw [if_neg hk1] at HBAG
          clear hend
        all_goals
          go_wp2_with fail
          refine (cadd_nil _ _ _).mono ?_
          rintro e w3 ⟨rfl, rfl⟩
          go_wp2_with fail
          refine (ccount_nil _ _).mono ?_
          rintro e w4 ⟨rfl, rfl⟩
          go_wp2_with fail
          refine (clen_nil _).mono ?_
          rintro e w5 ⟨rfl, rfl⟩
          go_wp2_with fail
          refine (freeze_nil _).mono ?_
          rintro e w6 ⟨rfl, rfl⟩
          go_wp2
          have hlen : (ofW [] (P.take k)).length ≤ 1000000 := by have := len_ofW (P.take k) []; rw [List.length_take] at this; simp at this; omega
          have hk0 : (0 : Int) ≤ (k : Int) := by omega
          have hkc : (k : Int) ≤ (cap : Int) := by omega
          go_region_held3 (fun _ => True) (exact trivial) (first
            | (go_at_call 18; refine (caddAll_any K none [] _ P w6.drew HC.out.drew HV2.out HA.out hP (by simp; omega)).mono ?_; rintro e w7 ⟨rfl, b7, hc7, hk7, hb7⟩; rw [HBAG.out] at hc7 ⊢; have HK7 := Lib.hid (kept_undrew hk7); have HC7 := Lib.hid hc7; clear hk7 hc7 hb7; simp only)
            | (go_at_call 14; refine (freeze_any K b7 _ w7 HC7.out hlen).mono ?_; rintro e w8 ⟨r8, rfl, ho8, hb8⟩; have HO8 := Lib.hid ho8; have HB8 := Lib.hid hb8; clear ho8 hb8)
            | (go_at_call 19; refine (of_any _ (P.take k) w8 (strs_head ((HV2.out.keptS HK7.out HA.out).below HB8.out) hk) (fun t ht => hP t (List.mem_of_mem_take ht)) (by rw [List.length_take]; omega)).mono ?_; rintro e w9 ⟨r9, rfl, ho9, hb9⟩; have HO9 := Lib.hid ho9; have HB9 := Lib.hid hb9; clear ho9 hb9)
            | (go_at_call 15; refine (same_true _ _ _ w9 (HO8.out.reads.below HB9.out (Nat.le_refl _)) HO9.out.reads (by omega)).mono ?_; rintro e w10 ⟨rfl, n10, hw10⟩; have HW10 := Lib.hid hw10; clear hw10))
          all_goals
            go_wp2
            go_ret
            refine ⟨rfl, ?_⟩
            rw [HW10.out]
            exact below_drewN' (((HB2.out.trans (HK7.out.below HB2.out.size fun k hk => by
              rcases hk with e | e
              · rw [e]; exact HKs.out
              · cases e)).trans (HB8.out.mono (Nat.le_trans HB2.out.size HK7.out.size))).trans (HB9.out.mono (Nat.le_trans (Nat.le_trans HB2.out.size HK7.out.size) HB8.out.size))) n10
end Go.Proofs.Ytikdhlpmoldijaa
