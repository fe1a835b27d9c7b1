/- The document's own small functions over words: Great, Same, Count, Less. -/
import Derived.Test.YtbacbgpemaldbaaWRow
namespace Go.Proofs.Ytbacbgpemaldbaa
open Go.RowKit

def GreatRel (L : Bag) (w : World) (i : Value) (wr : World) : Prop := ∃ k : Nat, i = .int .i64 (k : Int) ∧ k ≤ L.length ∧ wr = w ∧ ∀ j (h : j < L.length), j < k → L[j].1.size ≤ 100
/-- Are there more words, or longer ones? -/
def GreatRet (L : Bag) (most : Nat) (w : World) (e : Ending) (w' : World) : Prop := ∃ g, e = .returned (.bool g) ∧ w' = w ∧ (g = false → L.length ≤ most ∧ ∀ p ∈ L, p.1.size ≤ 100)
set_option maxRecDepth 100000 in
theorem greatRel_step {L : Bag} {k : Nat} (hk : k < L.length) (h : ∀ j (h : j < L.length), j < k → L[j].1.size ≤ 100) (hs : L[k].1.size ≤ 100) (w : World) : GreatRel L w (.int .i64 ((k : Int) + 1)) w :=
  ⟨k + 1, by simp, hk, rfl, fun j hj h1 => by
    rcases Nat.lt_or_eq_of_le (Nat.le_of_lt_succ h1) with h2 | rfl
    · exact h j hj h2
    · exact hs⟩
set_option maxRecDepth 100000 in
set_option maxHeartbeats 1000000 in
theorem great_any (v : Value) (L : Bag) (most : Nat) (w : World) (hv : wordsAt w v L) (hL : L.length ≤ 9223372036854775807) :
    Calls Try.prog 17 #[v, .int .i64 (most : Int)] w fun e w' => GreatRet L most w e w' := by
  obtain ⟨a, cap, rfl, hc⟩ := hv
  have HC := Lib.hid hc
  clear hc
  go_enter Try.func17, Try.ntmps17
  go_wp2
  go_loopw [5] (fun i wr => GreatRel L w i wr) (fun i _ => L.length + 1 - (intOf i).toNat)
  case atStart => exact ⟨0, rfl, by omega, rfl, fun j h hj => by omega⟩
  case round =>
    obtain ⟨k, rfl, hk, rfl, hall⟩ := hrel
    have HA := Lib.hid hall
    clear hall
    by_cases hgo : k < L.length
    · have hkI : (k : Int) < (L.length : Int) := by omega
      obtain ⟨ad, rfl, hb, c0, c1⟩ := HC.out k hgo
      by_cases hs : L[k].1.size ≤ 100
      · have hs' : ¬ (100 : Int) < (L[k].1.size : Int) := by omega
        have HS := Lib.hid hs
        clear hs
        go_wp2
        go_roundw
        case rel => exact greatRel_step hgo HA.out HS.out _
        case measure => simp [intOf]; omega
      · have hs' : (100 : Int) < (L[k].1.size : Int) := by omega
        clear hs
        go_wp2
        go_ret
        exact ⟨true, rfl, rfl, fun h => by cases h⟩
    · have hkI : ¬ (k : Int) < (L.length : Int) := by omega
      go_wp2
      go_ret
      refine ⟨_, rfl, rfl, fun h => ⟨?_, fun p hp => ?_⟩⟩
      · have := of_decide_eq_false h; omega
      · obtain ⟨j, hj, rfl⟩ := List.mem_iff_getElem.1 hp
        exact HA.out j hj (by omega)
def ToRel (n : Nat) (w : World) (i : Value) (wr : World) : Prop := ∃ k m : Nat, i = .int .i64 (k : Int) ∧ k ≤ n ∧ wr = w.drewN m
set_option maxRecDepth 100000 in
theorem toRel_step {n : Nat} {w wr : World} {k m : Nat} (hk : k < n) (h : wr = w.drewN m) (q : Nat) : ToRel n w (.int .i64 ((k : Int) + 1)) (wr.drewN q) := ⟨k + 1, m + q, by simp, hk, by rw [h]; simp⟩
set_option maxRecDepth 100000 in
theorem countOf_take : ∀ {L : Bag} {s : ByteArray} {k : Nat} (hk : k < L.length), (∀ j (h : j < L.length), j < k → L[j].1 ≠ s) → L[k].1 = s → countOf L s = L[k].2
  | q :: r, s, 0, _, _, h => by
    have h' : q.1 = s := h
    unfold countOf; rw [if_pos h']; rfl
  | q :: r, s, k + 1, hk, ha, h => by
    have h' : q.1 ≠ s := ha 0 (by simp) (by omega)
    unfold countOf
    rw [if_neg h']
    exact countOf_take (by simpa using hk) (fun j hj h1 => by have := ha (j + 1) (by simpa using hj) (by omega); simpa using this) h
def CountRel (L : Bag) (s : ByteArray) (w : World) (i : Value) (wr : World) : Prop := ∃ k : Nat, i = .int .i64 (k : Int) ∧ k ≤ L.length ∧ wr = w ∧ ∀ j (h : j < L.length), j < k → L[j].1 ≠ s
set_option maxRecDepth 100000 in
theorem countRel_step {L : Bag} {s : ByteArray} {k : Nat} (hk : k < L.length) (h : ∀ j (h : j < L.length), j < k → L[j].1 ≠ s) (hs : L[k].1 ≠ s) (w : World) : CountRel L s w (.int .i64 ((k : Int) + 1)) w :=
  ⟨k + 1, by simp, hk, rfl, fun j hj h1 => by
    rcases Nat.lt_or_eq_of_le (Nat.le_of_lt_succ h1) with h2 | rfl
    · exact h j hj h2
    · exact hs⟩
set_option maxRecDepth 100000 in
theorem before_skip : ∀ {a b : List UInt8} {k : Nat}, a.take k = b.take k → k ≤ a.length → k ≤ b.length → bytesBefore a b = bytesBefore (a.drop k) (b.drop k)
  | a, b, 0, _, _, _ => by simp
  | [], _, k + 1, _, h, _ => by simp at h
  | _, [], k + 1, _, _, h => by simp at h
  | x :: a, y :: b, k + 1, h, h1, h2 => by
    simp only [List.take_succ_cons, List.cons.injEq] at h
    obtain ⟨rfl, h⟩ := h
    rw [List.drop_succ_cons, List.drop_succ_cons, ← before_skip h (by simpa using h1) (by simpa using h2)]
    simp [bytesBefore]
set_option maxRecDepth 100000 in
theorem drop_past (s : ByteArray) {k : Nat} (h : s.size ≤ k) : (bs s).drop k = [] := List.drop_eq_nil_of_le (by rw [bs_size]; exact h)
set_option maxRecDepth 100000 in
theorem drop_at (s : ByteArray) {k : Nat} (h : k < s.size) : (bs s).drop k = s[k] :: (bs s).drop (k + 1) := by
  have hk : k < (bs s).length := by rw [bs_size]; exact h
  rw [List.drop_eq_getElem_cons hk]
  rfl
def LessRel (a b : ByteArray) (w : World) (i : Value) (wr : World) : Prop := ∃ k m : Nat, i = .int .i64 (k : Int) ∧ k ≤ a.size ∧ k ≤ b.size ∧ (bs a).take k = (bs b).take k ∧ wr = w.drewN m
set_option maxRecDepth 100000 in
theorem lessRel_step {a b : ByteArray} {w wr : World} {k m : Nat} (ha : k < a.size) (hb : k < b.size) (ht : (bs a).take k = (bs b).take k) (h : a[k] = b[k]) (hw : wr = w.drewN m) (q : Nat) : LessRel a b w (.int .i64 ((k : Int) + 1)) (wr.drewN q) :=
  ⟨k + 1, m + q, by simp, ha, hb, by rw [take_snoc a k ha, take_snoc b k hb, ht, h], by rw [hw]; simp⟩
set_option maxRecDepth 100000 in
set_option maxHeartbeats 1000000 in
theorem less_any (a b : ByteArray) (w : World) (ha : a.size ≤ 9223372036854775807) (hb : b.size ≤ 9223372036854775807) :
    Calls Try.prog 26 #[.string a, .string b] w fun e w' => e = .returned (.bool (ahead a b)) ∧ ∃ n, w' = w.drewN n := by
  go_enter Try.func26, Try.ntmps26
  go_wp2
  go_loopw [5] (fun i wr => LessRel a b w i wr) (fun i _ => a.size + 1 - (intOf i).toNat)
  case atStart => exact ⟨0, 0, rfl, by omega, by omega, rfl, rfl⟩
  case round =>
    obtain ⟨k, m, rfl, hka, hkb, htk, hw⟩ := hrel
    have HW := Lib.hid hw
    have HT := Lib.hid htk
    clear hw htk
    by_cases h1 : k < a.size
    · by_cases h2 : k < b.size
      · have h1I : (k : Int) < (a.size : Int) := by omega
        have h2I : (k : Int) < (b.size : Int) := by omega
        have b1 : (a[k].toNat : Int) < 256 := by have := a[k].toNat_lt; omega
        have b2 : (b[k].toNat : Int) < 256 := by have := b[k].toNat_lt; omega
        by_cases he : (a[k].toNat : Int) = (b[k].toNat : Int)
        · have HE : Hid (a[k] = b[k]) := Lib.hid (UInt8.toNat_inj.1 (by omega))
          go_wp2
          go_quiet (fail)
          go_wp2
          go_roundw
          case rel => exact lessRel_step h1 h2 HT.out HE.out HW.out _
          case measure => simp [intOf]; omega
        · go_wp2
          go_quiet (fail)
          go_wp2
          go_quiet (fail)
          go_wp2
          go_ret
          refine ⟨retB ?_, _, by rw [HW.out]; simp only [World.drewN_drewN]; rfl⟩
          unfold ahead
          rw [before_skip HT.out (by rw [bs_size]; omega) (by rw [bs_size]; omega), drop_at a h1, drop_at b h2]
          have hne : a[k] ≠ b[k] := fun e => he (by rw [e])
          simp [bytesBefore, hne, UInt8.lt_iff_toNat_lt]
      · have h1I : (k : Int) < (a.size : Int) := by omega
        have h2I : ¬ (k : Int) < (b.size : Int) := by omega
        go_wp2
        go_ret
        refine ⟨retB ?_, m, HW.out⟩
        have e : k = b.size := by omega
        unfold ahead
        rw [before_skip HT.out (by rw [bs_size]; omega) (by rw [bs_size]; omega), drop_at a h1, drop_past b (k := k) (by omega)]
        simp [bytesBefore]; omega
    · have h1I : ¬ (k : Int) < (a.size : Int) := by omega
      go_wp2
      go_ret
      refine ⟨retB ?_, m, HW.out⟩
      unfold ahead
      rw [before_skip HT.out (by rw [bs_size]; omega) (by rw [bs_size]; omega), drop_past a (k := k) (by omega)]
      by_cases h2 : k < b.size
      · rw [drop_at b h2]; simp [bytesBefore]; omega
      · rw [drop_past b (k := k) (by omega)]; simp [bytesBefore]; omega
end Go.Proofs.Ytbacbgpemaldbaa
