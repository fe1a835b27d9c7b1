/- The laws of naive: what they ask of the program's Learn; the document's example; what is looked at. -/
import Derived.Test.YtbacbgpemaldbaaNvLW
import Derived.Test.YtbacbgpemaldbaaNvG
import Derived.Test.YtbacbgpemaldbaaWord
namespace Go.Proofs.Ytbacbgpemaldbaa
open Go.RowKit

/-- What the program's Learn tells. -/
def LnPRet (L : Bag) (budget least : Int) (w : World) (e : Ending) (w' : World) : Prop :=
  ∃ v ms, e = .returned v ∧ eltsAt mergeE w' v ms ∧ Below w.heap.size w w' ∧ (((checkOf L).2 ≠ 0 ∨ least < 1) → ms = []) ∧ ((checkOf L).2 = 0 → 1 ≤ least → Learned (startW L) (countsOf L) budget least ms) ∧ ∀ a n c, v = .slice a n c → n ≤ c
def FitsB (n : Int) : Prop := -9223372036854775808 ≤ n ∧ n ≤ 9223372036854775807
/-- What is asked of the program. -/
def NLearns : Prop := ∀ (x : Value) (L : Bag) (budget least : Int) (w : World), wordsAt w x L → L.length ≤ 60 → Fits L → bytesOf L ≤ 300 → FitsB budget → FitsB least →
  Calls Try.prog 8 #[x, .int .i64 budget, .int .i64 least] w fun e w' => LnPRet L budget least w e w'
/-! The document's example. -/
def exL : Bag := [(⟨#[97, 98, 97, 98]⟩, 1)]
def tA : ByteArray := ⟨#[97]⟩
def tB : ByteArray := ⟨#[98]⟩
def tAB : ByteArray := ⟨#[97, 98]⟩
set_option maxRecDepth 100000 in
theorem ex_check : (checkOf exL).2 = 0 := by rfl
set_option maxRecDepth 100000 in
theorem ex_start : startW exL = [[tA, tB, tA, tB]] := by rfl
set_option maxRecDepth 100000 in
theorem ex_fits : Fits exL := fun p hp => by
  simp only [exL, List.mem_cons, List.not_mem_nil, or_false] at hp
  subst hp
  refine ⟨?_, ?_, ?_⟩ <;> decide
set_option maxRecDepth 100000 in
theorem ab_app : tA ++ tB = tAB := by
  apply bs_inj
  rw [bs_app]
  rfl
set_option maxRecDepth 100000 in
theorem ne_ab : tA ≠ tB := fun h => by
  have := congrArg bs h
  revert this
  decide
set_option maxRecDepth 100000 in
theorem ex_join1 : joinT (tA, tB) [tA, tB, tA, tB] = [tAB, tAB] := by
  unfold joinT
  rw [if_pos ⟨rfl, rfl⟩, ab_app]
  unfold joinT
  rw [if_pos ⟨rfl, rfl⟩, ab_app]
  rfl
set_option maxRecDepth 100000 in
theorem ex_join2 : ∃ t, joinT (tAB, tAB) [tAB, tAB] = [t] := by
  unfold joinT
  rw [if_pos ⟨rfl, rfl⟩]
  exact ⟨_, rfl⟩
set_option maxRecDepth 100000 in
theorem ex_one (m : Mg) (t : ByteArray) : cntW m [[t]] [1] = 0 := by simp [cntW, cntT]
set_option maxRecDepth 100000 in
theorem ex_two (m : Mg) : cntW m [[tAB, tAB]] [1] = if m = (tAB, tAB) then 1 else 0 := by
  have e : (tAB = m.1 ∧ tAB = m.2) ↔ m = (tAB, tAB) := ⟨fun h => Prod.ext h.1.symm h.2.symm, fun h => by rw [h]; exact ⟨rfl, rfl⟩⟩
  by_cases h : m = (tAB, tAB)
  · simp [cntW, cntT, h]
  · simp [cntW, cntT, e, h]
set_option maxRecDepth 100000 in
theorem ex_four (m : Mg) : cntW m [[tA, tB, tA, tB]] [1] = if m = (tA, tB) then 2 else (if m = (tB, tA) then 1 else 0) := by
  have e : (tA = m.1 ∧ tB = m.2) ↔ m = (tA, tB) := ⟨fun h => Prod.ext h.1.symm h.2.symm, fun h => by rw [h]; exact ⟨rfl, rfl⟩⟩
  have f : (tB = m.1 ∧ tA = m.2) ↔ m = (tB, tA) := ⟨fun h => Prod.ext h.1.symm h.2.symm, fun h => by rw [h]; exact ⟨rfl, rfl⟩⟩
  have k : cntW m [[tA, tB, tA, tB]] [1] = (((if m = (tA, tB) then 1 else 0) + ((if m = (tB, tA) then 1 else 0) + ((if m = (tA, tB) then 1 else 0) + 0)) : Nat) : Int) := by
    simp only [cntW, cntT, e, f]
    simp
  rw [k]
  by_cases h1 : m = (tA, tB)
  · have h2 : ¬ m = (tB, tA) := fun h2 => by
      rw [h1] at h2
      exact ne_ab (Prod.mk.inj h2).1
    rw [if_pos h1, if_neg h2, if_pos h1]
    rfl
  · rw [if_neg h1, if_neg h1]
    by_cases h2 : m = (tB, tA)
    · rw [if_pos h2, if_pos h2]; rfl
    · rw [if_neg h2, if_neg h2]; rfl
set_option maxRecDepth 100000 in
theorem ex_learned : Learned (startW exL) (countsOf exL) 9 1 [(tA, tB), (tAB, tAB)] := by
  have hc : countsOf exL = [1] := rfl
  rw [ex_start, hc]
  have r1 : runT [[tA, tB, tA, tB]] [(tA, tB)] = [[tAB, tAB]] := by show [joinT (tA, tB) [tA, tB, tA, tB]] = _; rw [ex_join1]
  obtain ⟨t, ht⟩ := ex_join2
  have r2 : runT [[tA, tB, tA, tB]] [(tA, tB), (tAB, tAB)] = [[t]] := by
    show runT (runT [[tA, tB, tA, tB]] [(tA, tB)]) [(tAB, tAB)] = _
    rw [r1]
    show [joinT (tAB, tAB) [tAB, tAB]] = _
    rw [ht]
  refine ⟨fun i hi => ?_, by decide, .inr ⟨noM, 0, .inl ⟨rfl, rfl, fun m => by rw [r2]; exact ex_one m t⟩, by decide⟩⟩
  match i, hi with
  | 0, _ =>
    refine ⟨2, .inr ⟨by decide, ?_, fun m => ?_⟩, by decide⟩
    · show cntW (tA, tB) [[tA, tB, tA, tB]] [1] = 2
      rw [ex_four, if_pos rfl]
    · show cntW m [[tA, tB, tA, tB]] [1] ≤ 2 ∧ (cntW m [[tA, tB, tA, tB]] [1] = 2 → m ≠ (tA, tB) → aheadM (tA, tB) m = true)
      rw [ex_four]
      by_cases h1 : m = (tA, tB)
      · exact ⟨by rw [if_pos h1]; exact Int.le_refl _, fun _ h => absurd h1 h⟩
      · rw [if_neg h1]
        by_cases h2 : m = (tB, tA)
        · rw [if_pos h2]; exact ⟨by decide, fun h => absurd h (by decide)⟩
        · rw [if_neg h2]; exact ⟨by decide, fun h => absurd h (by decide)⟩
  | 1, _ =>
    refine ⟨1, .inr ⟨by decide, ?_, fun m => ?_⟩, by decide⟩
    · show cntW (tAB, tAB) (runT [[tA, tB, tA, tB]] [(tA, tB)]) [1] = 1
      rw [r1, ex_two, if_pos rfl]
    · show cntW m (runT [[tA, tB, tA, tB]] [(tA, tB)]) [1] ≤ 1 ∧ (cntW m (runT [[tA, tB, tA, tB]] [(tA, tB)]) [1] = 1 → m ≠ (tAB, tAB) → aheadM (tAB, tAB) m = true)
      rw [r1, ex_two]
      by_cases h1 : m = (tAB, tAB)
      · exact ⟨by rw [if_pos h1]; exact Int.le_refl _, fun _ h => absurd h1 h⟩
      · rw [if_neg h1]; exact ⟨by decide, fun h => absurd h (by decide)⟩
  | n + 2, h => simp at h; omega
/-! Same of merges. -/
def NvToRel (n : Nat) (w : World) (i : Value) (wr : World) : Prop := ∃ k m : Nat, i = .int .i64 (k : Int) ∧ k ≤ n ∧ wr = w.drewN m
set_option maxRecDepth 100000 in
set_option maxHeartbeats 1000000 in
theorem nvsame_true (v x : Value) (L : List Mg) (w : World) (hv : eltsAt mergeE w v L) (hx : eltsAt mergeE w x L) (hL : L.length ≤ 9223372036854775807) :
    Calls Try.prog 9 #[v, x] w fun e w' => e = .returned (.bool true) ∧ Below w.heap.size w w' := by
  have HV := Lib.hid hv
  have HX := Lib.hid hx
  obtain ⟨a, cap, rfl, hc⟩ := hv
  obtain ⟨b, cap2, rfl, hd⟩ := hx
  have HC := Lib.hid hc
  have HD := Lib.hid hd
  clear hc hd
  go_enter Try.func9, Try.ntmps9
  go_wp2
  go_loopw [5] (fun i wr => NvToRel L.length w i wr) (fun i _ => L.length + 1 - (intOf i).toNat)
  case atStart => exact ⟨0, 0, rfl, by omega, rfl⟩
  case round =>
    obtain ⟨k, m, rfl, hk, hw⟩ := hrel
    have HW := Lib.hid hw
    have HB : Hid (Below w.heap.size w wr) := Lib.hid (by rw [hw]; exact below_drewN' (Below.refl _ _) _)
    clear hw
    by_cases hgo : k < L.length
    · have hkI : (k : Int) < (L.length : Int) := by omega
      obtain ⟨ad, rfl, _⟩ := HC.out k hgo
      obtain ⟨ae, rfl, _⟩ := HD.out k hgo
      obtain ⟨c0, c1⟩ := merges_at HV.out HB.out hgo
      obtain ⟨d0, d1⟩ := merges_at HX.out HB.out hgo
      go_wp2
      go_quiet (fail)
      go_wp2
      go_roundw
      case rel => exact ⟨k + 1, m + nq, by simp, hgo, by rw [HW.out]; simp⟩
      case measure => simp [intOf]; omega
    · have hkI : ¬ (k : Int) < (L.length : Int) := by omega
      go_wp2
      go_ret
      exact ⟨rfl, HB.out⟩
/-! What is looked at. -/
set_option maxRecDepth 100000 in
theorem nv_bytes_few {L : Bag} (h : ∀ p ∈ L, p.1.size ≤ 100) : bytesOf L ≤ 100 * L.length := by
  induction L with
  | nil => simp [bytesOf]
  | cons p r ih =>
    have e : bytesOf (p :: r) = p.1.size + bytesOf r := by simp [bytesOf]
    have := h p List.mem_cons_self
    have := ih fun q hq => h q (List.mem_cons_of_mem _ hq)
    rw [e, List.length_cons]
    omega
def NvGreat (L : Bag) (w : World) (e : Ending) (w' : World) : Prop := ∃ g, e = .returned (.bool g) ∧ w' = w ∧ (g = false → L.length ≤ 60 ∧ bytesOf L ≤ 300)
set_option maxRecDepth 100000 in
set_option maxHeartbeats 2000000 in
theorem nvgreat_any (v : Value) (L : Bag) (w : World) (hv : wordsAt w v L) (hL : L.length ≤ 9223372036854775807) :
    Calls Try.prog 7 #[v] w fun e w' => NvGreat L w e w' := by
  have HV := Lib.hid hv
  have cG := great_any v L 60 w hv hL
  rw [show ((60 : Nat) : Int) = 60 from rfl] at cG
  obtain ⟨a, cap, rfl, _⟩ := hv
  go_enter Try.func7, Try.ntmps7
  go_wp2_with fail
  refine cG.mono ?_
  rintro e w1 ⟨g, rfl, rfl, hg⟩
  cases g with
  | true =>
    go_wp2
    go_ret
    exact ⟨true, rfl, rfl, fun h => by cases h⟩
  | false =>
    obtain ⟨h1, h2⟩ := hg rfl
    have hb := nv_bytes_few h2
    have HLL := Lib.hid h1
    have cP := refPositions_any _ L w1 HV.out hL (by omega)
    obtain ⟨n, hn⟩ : ∃ n, bytesOf L = n := ⟨_, rfl⟩
    have HN := Lib.hid hn
    rw [hn] at cP
    clear hg h1 h2 hb cG hn
    go_wp2_with fail
    refine cP.mono ?_
    rintro e w2 ⟨rfl, rfl⟩
    clear cP
    by_cases hb : n ≤ 300
    · have hd : decide ((300 : Int) < (n : Int)) = false := decide_eq_false (by omega)
      go_wp2
      go_ret
      exact ⟨false, by simp, rfl, fun _ => ⟨HLL.out, by rw [HN.out]; exact hb⟩⟩
    · have hd : decide ((300 : Int) < (n : Int)) = true := decide_eq_true (by omega)
      go_wp2
      go_ret
      exact ⟨true, by simp, rfl, fun h => by cases h⟩
/-! The example, walked. -/
set_option maxRecDepth 100000 in
theorem ex_word (w : World) : wordsAt (w.alloc (.cells #[.string ⟨#[97, 98, 97, 98]⟩, .int .i64 1] 42)) (.slice (some ⟨w.heap.size, 0, none⟩) 1 1) exL := one_word w _ _
set_option maxRecDepth 100000 in
set_option maxHeartbeats 4000000 in
theorem nvawake_any (hP : NLearns) (w : World) : Calls Try.prog 6 #[] w fun e w' => e = .returned (.bool true) ∧ Below w.heap.size w w' := by
  obtain ⟨w1, hw1⟩ : ∃ w1, w1 = w.alloc (.cells #[.string ⟨#[97, 98, 97, 98]⟩, .int .i64 1] 42) := ⟨_, rfl⟩
  have HB1 : Hid (Below w.heap.size w w1) := Lib.hid (by rw [hw1]; exact (Below.refl _ w).alloc (Nat.le_refl _) _)
  have cN := hP (.slice (some ⟨w.heap.size, 0, none⟩) 1 1) exL 9 1 w1 (by rw [hw1]; exact ex_word w) (by decide) ex_fits (by decide) ⟨by decide, by decide⟩ ⟨by decide, by decide⟩
  have hw1' := hw1.symm
  clear hw1
  go_enter Try.func6, Try.ntmps6
  go_wp2_with fail
  refine cN.mono ?_
  rintro e w2 ⟨v, ms, rfl, hv, hb2, _, hl, _⟩
  obtain rfl : ms = [(tA, tB), (tAB, tAB)] := learned_uni (hl ex_check (by decide)) ex_learned
  obtain ⟨w3, hw3⟩ : ∃ w3, w3 = w2.alloc (.cells #[.string tA, .string tB, .string tAB, .string tAB] 33) := ⟨_, rfl⟩
  have hb3 : Below w2.heap.size w2 w3 := by rw [hw3]; exact (Below.refl _ w2).alloc (Nat.le_refl _) _
  have hx3 : eltsAt mergeE w3 (.slice (some ⟨w2.heap.size, 0, none⟩) 2 2) [(tA, tB), (tAB, tAB)] := by
    have h : rowE mergeE w3 w2.heap.size [(tA, tB), (tAB, tAB)] := by rw [hw3]; exact ⟨_, heap_alloc_new w2 _, rfl⟩
    exact (h.own (b := 0) (Nat.zero_le _) (by decide)).reads
  have cS := nvsame_true v (.slice (some ⟨w2.heap.size, 0, none⟩) 2 2) _ w3 (hv.below hb3 (Nat.le_refl _)) hx3 (by decide)
  have HB3 : Hid (Below w.heap.size w w3) := Lib.hid ((HB1.out.trans (hb2.mono HB1.out.size)).trans (hb3.mono (Nat.le_trans HB1.out.size hb2.size)))
  have hw3' := hw3.symm
  unfold tA tB tAB at hw3'
  clear hw3 hb3 hx3 hv hb2 hl cN
  go_wp2_with fail
  refine cS.mono ?_
  rintro e w4 ⟨rfl, hb4⟩
  have HB4 := Lib.hid (HB3.out.trans (hb4.mono HB3.out.size))
  clear hb4 cS
  go_wp2
  go_ret
  exact ⟨rfl, HB4.out⟩
end Go.Proofs.Ytbacbgpemaldbaa
