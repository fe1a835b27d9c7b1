/- The walk of TableLong. -/
import Derived.Test.YtikaclfcajnddaaAwake
import Derived.Test.YtikaclfcajnddaaCheck
import Derived.Test.YtikaclfcajnddaaRefCheck
import Derived.OpenShut
namespace Go.Proofs.Ytikaclfcajnddaa
open Go.RowKit

/-- An owned row of bytes, written at one place. -/
theorem ownB.store {w : World} {b g n cap : Nat} {e : TypeId} {l : List UInt8} (h : ownB w b e (.slice (some ⟨g, 0, none⟩) n cap) l) (i : Nat) (c : UInt8) (z : Int) (hz : z = (c.toNat : Int)) : ownB (w.setCell ⟨g, i, none⟩ (.int .u8 z)) b e (.slice (some ⟨g, 0, none⟩) n cap) (l.set i c) := by
  subst hz
  rcases h.2 with ⟨h0, _⟩ | ⟨g', cap', cur, hv, hb, hg, h1, h2, h3, h4⟩
  · cases h0
  · cases hv
    refine ⟨by simp [bcells], .inr ⟨g, cap, cur.setIfInBounds i (.int .u8 (c.toNat : Int)), by simp, hb, heap_setCell_at hg _, by simpa using h1, by simpa using h2, by simpa using h3, ?_⟩⟩
    simp only [List.length_set, Nat.mul_one] at h4 ⊢
    rw [Array.toList_setIfInBounds, List.take_set, h4]
    simp [bcells, List.map_set]
theorem ownB.cells {w : World} {b g n cap : Nat} {e : TypeId} {l : List UInt8} (h : ownB w b e (.slice (some ⟨g, 0, none⟩) n cap) l) {j : Nat} (hj : j < l.length) : (∃ u, w.cell? ⟨g, j, none⟩ = some u) ∧ w.frozen? ⟨g, j, none⟩ = false := by
  rcases h.2 with ⟨h0, _⟩ | ⟨g', cap', cur, hv, hb, hg, h1, h2, h3, h4⟩
  · cases h0
  · cases hv
    refine ⟨⟨cur[j]'(by omega), ?_⟩, Lib.frozen_of_heap hg _⟩
    rw [cell_of_row w g _ cur e (0, 0) hg, Array.getElem?_eq_getElem (by omega)]
theorem ownB_zeros {w : World} {b n : Nat} {v : Value} (h : w.ownsRow b 5 1 v n (madeCells (Value.int .u8 0).cells (n * 1)).toList) : ownB w b 5 v (List.replicate n 0) := by
  unfold ownB
  have e : (madeCells (Value.int .u8 0).cells (n * 1)).toList = bcells (List.replicate n 0) := by
    refine List.ext_getElem (by simp [madeCells, bcells]) fun j h1 h2 => ?_
    simp [madeCells, Value.cells, bcells, Nat.mod_one]
  rw [← e, List.length_replicate]; exact h
/-- A row of bytes that is written over. -/
def OverB (n : Nat) (w : World) (v i : Value) (wr : World) : Prop :=
  ∃ (k : Nat) (l : List UInt8), i = .int .i64 (k : Int) ∧ k ≤ n ∧ l.length = n ∧ ownB wr w.heap.size 5 v l ∧ Below w.heap.size w wr
theorem overB_step {n g cap k : Nat} {w wr : World} {l : List UInt8} (hk : k < n) (hl : l.length = n) (hg : w.heap.size ≤ g) (ho : ownB wr w.heap.size 5 (.slice (some ⟨g, 0, none⟩) n cap) l) (hb : Below w.heap.size w wr) :
    OverB n w (.slice (some ⟨g, 0, none⟩) n cap) (.int .i64 ((k : Int) + 1)) (wr.setCell ⟨g, k, none⟩ (.int .u8 109)) :=
  ⟨k + 1, l.set k 109, by simp, hk, by simpa using hl, ho.store k 109 109 rfl, hb.setCell hg _⟩
/-- One word, laid as a row of the call's own. -/
theorem own_one (w : World) (s : ByteArray) (c : Int) : ownW (w.alloc (.cells #[.string s, .int .i64 c] 36)) w.heap.size (.slice (some ⟨w.heap.size, 0, none⟩) 1 1) [(s, c)] :=
  ⟨rfl, .inr ⟨w.heap.size, 1, #[.string s, .int .i64 c], rfl, Nat.le_refl _, heap_alloc_new w _, Nat.le_refl _, by unfold maxLen; omega, rfl, rfl⟩⟩
theorem fits_one {s : ByteArray} (h : s.size ≤ 9223372036854775807) : Fits [(s, 1)] := by
  intro p hp
  rw [List.mem_singleton] at hp
  subst hp
  exact ⟨h, by simp, by simp⟩
theorem fits_two {s : ByteArray} (h : s.size ≤ 9223372036854775807) : Fits [(⟨#[97]⟩, 1), (s, 1)] := by
  intro p hp
  rw [List.mem_cons, List.mem_singleton] at hp
  rcases hp with rfl | rfl
  · exact ⟨by decide, by decide, by decide⟩
  · exact ⟨h, by simp, by simp⟩
set_option maxRecDepth 100000 in
set_option maxHeartbeats 2000000 in
theorem tableLong_walk (more : Int) (b : Bool) (w : World) (hm : (Lit.int .u8 more).wf = true) :
    Calls Try.prog 4 #[.int .u8 more, .bool b] w fun e w' => e = .returned (.bool true) ∧ Below w.heap.size w w' := by
  obtain ⟨m0, m1⟩ := bounds_u8 hm
  clear hm
  obtain ⟨n, hn, hn0, hn1⟩ : ∃ n : Nat, 65535 + more % 3 = (n : Int) ∧ 65535 ≤ n ∧ n ≤ 65537 := ⟨(65535 + more % 3).toNat, by omega, by omega, by omega⟩
  have HN0 := Lib.hid hn0; have HN1 := Lib.hid hn1
  have hwn : IntKind.i64.wrap (n : Int) = (n : Int) := IntWalk.i64_in _ (by omega)
  have hnI : (0 : Int) ≤ (n : Int) := by omega
  have hnJ : (n : Int) ≤ 65537 := by omega
  clear hn0 hn1
  obtain ⟨i0, hi, hz0, hz1, hz2⟩ := info_parts Try.info5
  go_enter Try.func4, Try.ntmps4
  go_wp2_with fail
  refine (awake_any _).mono ?_
  rintro e w1 ⟨rfl, hb1⟩
  have HB1 := Lib.hid hb1
  clear hb1
  go_wp2_with (at_make; refine wpList_make_full _ rfl _ _ 34 rfl w1.heap.size 5 i0 (.int .u8 0) 1 Try.underlying34 hi hz0 hz1 .i64 .i64 _ _ n rfl rfl rfl rfl (by rw [hz2]; have := HN1.out; omega) (by unfold maxLen; have := HN1.out; omega) (Nat.le_refl _) ?_; intro w2 hown hgr)
  have HO2 := Lib.hid (ownB_zeros hown)
  have HB2 := Lib.hid ((Below.refl w1.heap.size w1).grown hgr (Nat.le_refl _) fun g hg => by cases hg)
  clear hown hgr hn
  obtain ⟨g, hg⟩ : ∃ g, w1.heap.size = g := ⟨_, rfl⟩
  have HG : Hid (w1.heap.size ≤ g) := Lib.hid (by omega)
  have HGE := Lib.hid hg
  rw [hg]
  rw [hg] at HO2
  rw [← HGE.out] at HO2
  clear hg
  go_loopw [6] (fun i wr => OverB n w1 (.slice (some ⟨g, 0, none⟩) n n) i wr) (fun i _ => n + 1 - (intOf i).toNat)
  case atStart => exact ⟨0, List.replicate n 0, rfl, by omega, by simp, by rw [← HGE.out]; exact HO2.out, HB2.out⟩
  case round =>
    obtain ⟨k, l, rfl, hk, hl, hown, hbel⟩ := hrel
    have HO := Lib.hid hown; have HB := Lib.hid hbel; have HL := Lib.hid hl
    clear hown hbel hl
    by_cases hgo : k < n
    · have hkI : (k : Int) < (n : Int) := by omega
      obtain ⟨⟨u, c0⟩, f0⟩ := HO.out.cells (j := k) (by rw [HL.out]; exact hgo)
      go_wp2
      go_roundw
      case rel => exact overB_step hgo HL.out HG.out HO.out HB.out
      case measure => simp [intOf]; omega
    · have hkI : ¬ (k : Int) < (n : Int) := by omega
      have hc := ownB.text (P := Try.prog) HO.out 34 9 Try.underlying34 Try.underlying5 Try.underlying9
      have HT : Hid ((⟨l.toArray⟩ : ByteArray).size ≤ 9223372036854775807) := Lib.hid (by
        have h1 : (⟨l.toArray⟩ : ByteArray).size = l.length := by simp [ByteArray.size]
        rw [h1, HL.out]; have := HN1.out; omega)
      have HBW : Hid (Below w.heap.size w wr) := Lib.hid (HB1.out.trans (HB.out.mono HB1.out.size))
      obtain ⟨t, ht⟩ : ∃ t : ByteArray, t = ⟨l.toArray⟩ := ⟨_, rfl⟩
      rw [← ht] at hc HT
      clear ht
      have HA : Hid (Below w.heap.size w (wr.alloc (.cells #[.string t, .int .i64 1] 36))) := Lib.hid (HBW.out.alloc HBW.out.size _)
      have HW := Lib.hid (one_word wr t 1)
      cases b with
      | false =>
        have cC := fun v w h => check_any v [(t, 1)] w h (by simp) (fits_one HT.out)
        have cD := fun v w h => refCheck_any v [(t, 1)] w h (by simp) (fits_one HT.out)
        generalize checkOf [(t, 1)] = z at cC cD
        obtain ⟨z, ze⟩ := z
        go_wp2_with fail
        refine (cC _ _ HW.out).mono ?_
        rintro e w3 ⟨rfl, hb3⟩
        have HB3 : Hid (Below w.heap.size w w3) := Lib.hid (HA.out.trans (hb3.mono HA.out.size))
        have HW3 := Lib.hid (HW.out.below hb3 (Nat.le_refl _))
        clear hb3
        go_wp2_with fail
        refine (cD _ _ HW3.out).mono ?_
        rintro e w4 ⟨rfl, n4, hw4⟩
        have HB4 : Hid (Below w.heap.size w w4) := Lib.hid (by rw [hw4]; exact below_drewN' HB3.out n4)
        clear hw4
        go_wp2
        go_ret
        exact ⟨rfl, HB4.out⟩
      | true =>
        have cC := fun v w h => check_any v [(⟨#[97]⟩, 1), (t, 1)] w h (by simp) (fits_two HT.out)
        have cD := fun v w h => refCheck_any v [(⟨#[97]⟩, 1), (t, 1)] w h (by simp) (fits_two HT.out)
        generalize checkOf [(⟨#[97]⟩, 1), (t, 1)] = z at cC cD
        obtain ⟨z, ze⟩ := z
        obtain ⟨w3, hw3⟩ : ∃ w3, wr.alloc (.cells #[.string t, .int .i64 1] 36) = w3 := ⟨_, rfl⟩
        have hs3 : w3.heap.size = wr.heap.size + 1 := by rw [← hw3, World.size_alloc]
        rw [hw3] at HA HW
        have HA2 : Hid (Below w.heap.size w (w3.alloc (.cells #[.string ⟨#[97]⟩, .int .i64 1] 36))) := Lib.hid (HA.out.alloc HA.out.size _)
        have HW2 := Lib.hid (HW.out.below ((Below.refl _ w3).alloc (o := .cells #[.string ⟨#[97]⟩, .int .i64 1] 36) (Nat.le_refl _)) (Nat.le_refl _))
        have HO1 : Hid (ownW (w3.alloc (.cells #[.string ⟨#[97]⟩, .int .i64 1] 36)) w3.heap.size (.slice (some ⟨wr.heap.size + 1, 0, none⟩) 1 1) [(⟨#[97]⟩, 1)]) := Lib.hid (by
          have := own_one w3 ⟨#[97]⟩ 1
          rwa [hs3] at this ⊢)
        go_wp2_with (at_builtin; refine wpList_append_words rfl (.tmp 34) (.tmp 35) rfl w3.heap.size _ _ [(⟨#[97]⟩, 1)] [(t, 1)] rfl rfl HO1.out HW2.out (fun n c e => by cases e) (by simp) (by rw [World.size_alloc]; omega) ?_; intro r5 w5 hown5 hg5 _; have HO5 := Lib.hid hown5; have HB5 : Hid (Below w.heap.size w w5) := Lib.hid (HA2.out.grown hg5 (by rw [World.size_alloc]; have := HA.out.size; omega) fun g e => by cases e; have := HBW.out.size; show w.heap.size ≤ wr.heap.size + 1; omega); clear hown5 hg5)
        refine (cC _ _ HO5.out.reads).mono ?_
        rintro e w6 ⟨rfl, hb6⟩
        have HB6 : Hid (Below w.heap.size w w6) := Lib.hid (HB5.out.trans (hb6.mono HB5.out.size))
        have HW6 := Lib.hid (HO5.out.reads.below hb6 (Nat.le_refl _))
        clear hb6
        go_wp2_with fail
        refine (cD _ _ HW6.out).mono ?_
        rintro e w7 ⟨rfl, n7, hw7⟩
        have HB7 : Hid (Below w.heap.size w w7) := Lib.hid (by rw [hw7]; exact below_drewN' HB6.out n7)
        clear hw7
        go_wp2
        go_ret
        exact ⟨rfl, HB7.out⟩
end Go.Proofs.Ytikaclfcajnddaa
