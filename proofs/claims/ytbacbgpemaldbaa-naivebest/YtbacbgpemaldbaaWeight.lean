/- Weight of layer 8, and the document's. -/
import Derived.Test.YtbacbgpemaldbaaWord
import Derived.Test.YtbacbgpemaldbaaRowsum
namespace Go.Proofs.Ytbacbgpemaldbaa
open Go.RowKit

/-- A row that is filled up to place k. -/
def filled (Z : List Int) (k : Nat) : List Int := Z.take k ++ List.replicate (Z.length - k) 0
set_option maxRecDepth 100000 in
theorem filled_len {Z : List Int} {k : Nat} (hk : k ≤ Z.length) : (filled Z k).length = Z.length := by
  unfold filled; rw [List.length_append, List.length_take, List.length_replicate]; omega
set_option maxRecDepth 100000 in
theorem filled_zero (Z : List Int) : filled Z 0 = List.replicate Z.length 0 := by simp [filled]
set_option maxRecDepth 100000 in
theorem filled_all (Z : List Int) : filled Z Z.length = Z := by simp [filled]
set_option maxRecDepth 100000 in
theorem filled_step {Z : List Int} {k : Nat} (hk : k < Z.length) : (filled Z k).set k Z[k] = filled Z (k + 1) := by
  unfold filled
  rw [List.set_append_right _ _ (by rw [List.length_take]; omega), List.length_take, Nat.min_eq_left (by omega), Nat.sub_self, List.take_succ_eq_append_getElem hk, List.append_assoc]
  have e : Z.length - k = (Z.length - (k + 1)) + 1 := by omega
  rw [e, List.replicate_succ]
  rfl
set_option maxRecDepth 100000 in
theorem counts_len (L : Bag) : (countsOf L).length = L.length := by simp [countsOf]
set_option maxRecDepth 100000 in
theorem rooms_len (L : Bag) : (roomsOf L).length = L.length := by simp [roomsOf]
def WeighRel (L : Bag) (w : World) (g h : Nat) (i : Value) (wr : World) : Prop :=
  ∃ k : Nat, i = .int .i64 (k : Int) ∧ k ≤ L.length ∧ rowI wr g (filled (countsOf L) k) ∧ rowI wr h (filled (roomsOf L) k) ∧ Below w.heap.size w wr
set_option maxRecDepth 100000 in
theorem weighRel_step {L : Bag} {w wr : World} {g h k : Nat} {o : Obj} (hk : k < L.length) (hg : w.heap.size ≤ g) (hh : w.heap.size ≤ h) (hne : g ≠ h) (h1 : rowI wr g (filled (countsOf L) k)) (h2 : rowI wr h (filled (roomsOf L) k)) (hb : Below w.heap.size w wr) :
    WeighRel L w g h (.int .i64 ((k : Int) + 1)) (((wr.alloc o).setCell ⟨g, k, none⟩ (.int .i64 L[k].2)).setCell ⟨h, k, none⟩ (.int .i64 (roomOf L[k].1))) := by
  have e1 : (countsOf L)[k]'(by rw [counts_len]; exact hk) = L[k].2 := by simp [countsOf]
  have e2 : (roomsOf L)[k]'(by rw [rooms_len]; exact hk) = roomOf L[k].1 := by simp [roomsOf]
  have f1 := filled_step (Z := countsOf L) (k := k) (by rw [counts_len]; exact hk)
  have f2 := filled_step (Z := roomsOf L) (k := k) (by rw [rooms_len]; exact hk)
  rw [e1] at f1
  rw [e2] at f2
  refine ⟨k + 1, by simp, hk, ?_, ?_, ((hb.alloc hb.size _).setCell hg _).setCell hh _⟩
  · rw [← f1]
    exact ((h1.kept (Below.heap_alloc _ _ _ h1.lt)).store k L[k].2).kept (Below.heap_setCell _ _ _ _ hne)
  · rw [← f2]
    exact (((h2.kept (Below.heap_alloc _ _ _ h2.lt)).kept (Below.heap_setCell _ _ _ _ hne.symm))).store k (roomOf L[k].1)
set_option maxRecDepth 100000 in
theorem counts_in {L : Bag} (h : Fits L) : in64 (countsOf L) := by
  intro z hz
  obtain ⟨p, hp, rfl⟩ := List.mem_map.1 hz
  exact (h p hp).2
set_option maxRecDepth 100000 in
theorem rooms_in {L : Bag} (h : Fits L) : in64 (roomsOf L) := by
  intro z hz
  obtain ⟨p, hp, rfl⟩ := List.mem_map.1 hz
  have := (h p hp).1
  show -9223372036854775808 ≤ ((p.1.size - 1 : Nat) : Int) ∧ ((p.1.size - 1 : Nat) : Int) ≤ 9223372036854775807
  omega
set_option maxRecDepth 100000 in
set_option maxHeartbeats 1000000 in
theorem weight_any (v : Value) (L : Bag) (w : World) (hv : wordsAt w v L) (hL : L.length ≤ 1000000) (hf : Fits L) :
    Calls Try.prog 28 #[v] w fun e w' => e = .returned (.tuple #[.int .i64 (weighOf L).1, .bool (weighOf L).2]) ∧ Below w.heap.size w w' := by
  have HV := Lib.hid hv
  obtain ⟨a, cap, rfl, hc⟩ := hv
  have HC := Lib.hid hc
  clear hc
  obtain ⟨i0, hi, hz0, hz1, hz2⟩ := info_parts Try.info3
  go_enter Try.func28, Try.ntmps28
  go_wp2_with (first
    | (at_make; refine wpList_make_full _ rfl _ _ 31 rfl w.heap.size 3 i0 (.int .i64 0) 1 Try.underlying31 hi hz0 hz1 .i64 .i64 _ _ L.length rfl rfl rfl rfl (by rw [hz2]; omega) (by unfold maxLen; omega) (Nat.le_refl _) ?_; intro w1 hown1 hgr1)
    | (at_make; refine wpList_make_full _ rfl _ _ 31 rfl w1.heap.size 3 i0 (.int .i64 0) 1 Try.underlying31 hi hz0 hz1 .i64 .i64 _ _ L.length rfl rfl rfl rfl (by rw [hz2]; omega) (by unfold maxLen; omega) (Nat.le_refl _) ?_; intro w2 hown2 hgr2))
  have HR1 : Hid (rowI w1 w.heap.size (List.replicate L.length 0)) := Lib.hid (ownI.row (ownI_zeros hown1))
  have HR2 : Hid (rowI w2 w1.heap.size (List.replicate L.length 0)) := Lib.hid (ownI.row (ownI_zeros hown2))
  have hlt : w.heap.size < w1.heap.size := HR1.out.lt
  have HK1 : Hid (rowI w2 w.heap.size (List.replicate L.length 0)) := Lib.hid (HR1.out.kept (hgr2.block _ hlt (by simp)))
  have HB2 : Hid (Below w.heap.size w w2) := Lib.hid (((Below.refl w.heap.size w).grown hgr1 (Nat.le_refl _) fun g hg => by cases hg).grown hgr2 (by omega) fun g hg => by cases hg)
  clear hown1 hown2 hgr1 hgr2
  obtain ⟨g, hg⟩ : ∃ g, w.heap.size = g := ⟨_, rfl⟩
  obtain ⟨h, hh⟩ : ∃ h, w1.heap.size = h := ⟨_, rfl⟩
  rw [hg] at HK1 hlt
  rw [hh] at HR2 hlt
  have HG : Hid (w.heap.size ≤ g) := Lib.hid (by omega)
  have HH : Hid (w.heap.size ≤ h) := Lib.hid (by omega)
  rw [hh, hg]
  have HGE := Lib.hid hg
  clear hg hh HR1
  go_loopw [16] (fun i wr => WeighRel L w g h i wr) (fun i _ => L.length + 1 - (intOf i).toNat)
  case atStart => exact ⟨0, rfl, by omega, by rw [filled_zero, counts_len]; exact HK1.out, by rw [filled_zero, rooms_len]; exact HR2.out, HB2.out⟩
  case round =>
    obtain ⟨k, rfl, hk, hr1, hr2, hb⟩ := hrel
    have HB := Lib.hid hb; have HA := Lib.hid hr1; have HZ := Lib.hid hr2
    clear hb hr1 hr2
    by_cases hgo : k < L.length
    · have hkI : (k : Int) < (L.length : Int) := by omega
      obtain ⟨ad, rfl, _⟩ := HC.out k hgo
      obtain ⟨c0, c1⟩ := words_at HV.out HB.out hgo
      have HT := Lib.hid (hf.at hgo).1
      have hkc : k < (filled (countsOf L) k).length := by rw [filled_len (by rw [counts_len]; omega), counts_len]; exact hgo
      have hkr : k < (filled (roomsOf L) k).length := by rw [filled_len (by rw [rooms_len]; omega), rooms_len]; exact hgo
      obtain ⟨o, ho⟩ : ∃ o : Obj, o = .cells #[.string L[k].1, .int .i64 L[k].2] 42 := ⟨_, rfl⟩
      have d1 := (HA.out.kept (w' := wr.alloc o) (Below.heap_alloc _ _ _ HA.out.lt)).cells hkc
      have d2 := ((HZ.out.kept (w' := wr.alloc o) (Below.heap_alloc _ _ _ HZ.out.lt)).kept (w' := (wr.alloc o).setCell ⟨g, k, none⟩ (.int .i64 L[k].2)) (Below.heap_setCell _ _ _ _ (show h ≠ g by omega))).cells hkr
      have n1 : g ≠ wr.heap.size := by have := HA.out.lt; omega
      have n2 : wr.heap.size ≠ g := by have := HA.out.lt; omega
      obtain ⟨d1, e1⟩ := d1
      obtain ⟨d2, e2⟩ := d2
      subst ho
      have HST := Lib.hid (weighRel_step (o := .cells #[.string L[k].1, .int .i64 L[k].2] 42) hgo HG.out HH.out (by omega) HA.out HZ.out HB.out)
      go_wp2_with (go_at_call 32; refine (room_any _ _ HT.out).mono ?_; rintro e w1 ⟨rfl, rfl⟩)
      go_roundw
      case rel => exact HST.out
      case measure => simp [intOf]; omega
    · have hkI : ¬ (k : Int) < (L.length : Int) := by omega
      obtain rfl : k = L.length := by omega
      have hA := HA.out.reads L.length
      have hZ := HZ.out.reads L.length
      have eA := filled_all (countsOf L)
      have eZ := filled_all (roomsOf L)
      rw [counts_len] at eA
      rw [rooms_len] at eZ
      rw [eA, counts_len] at hA
      rw [eZ, rooms_len] at hZ
      have HAA := Lib.hid hA; have HZZ := Lib.hid hZ
      clear hA hZ eA eZ
      go_wp2_with fail
      refine (dot_any _ _ (countsOf L) (roomsOf L) _ HAA.out HZZ.out (by rw [counts_len]; unfold maxLen; omega) (counts_in hf) (rooms_in hf)).mono ?_
      rintro e w3 ⟨rfl, n, hw3⟩
      have HB3 : Hid (Below w.heap.size w w3) := Lib.hid (by rw [hw3]; exact below_drewN' HB.out n)
      clear hw3
      go_wp2
      go_ret2
      exact ⟨rfl, HB3.out⟩
end Go.Proofs.Ytbacbgpemaldbaa
