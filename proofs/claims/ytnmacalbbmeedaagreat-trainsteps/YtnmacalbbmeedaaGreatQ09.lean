/- Texts in one: Tab, Word, Pair, Mul, Ints, Rowsum. -/
import Derived.Test.YtnmacalbbmeedaaGreatQ05
import Derived.Test.YtnmacalbbmeedaaGreatQ06
import Derived.Test.YtnmacalbbmeedaaGreatRows
import Derived.Test.YtnmacalbbmeedaaGreatQ01
import Derived.Shelf.Bits.Mul64
import Derived.Test.YtnmacalbbmeedaaGreatQ03
import Derived.BigQuiet
/- What a table's calls answer, on plain lists. -/
namespace Go.Proofs.YtnmacalbbmeedaaGreat

/-- At how many places of a word two bytes stand behind one another. -/
def roomOf (s : ByteArray) : Int := ((s.size - 1 : Nat) : Int)
def countsOf (L : Bag) : List Int := L.map fun p => p.2
def roomsOf (L : Bag) : List Int := L.map fun p => roomOf p.1
/-- A table's weight, if it is within. -/
def weighOf (L : Bag) : Int × Bool := dotFrom 0 (countsOf L) (roomsOf L)
/-- A table's positions. -/
def bytesOf (L : Bag) : Nat := (L.map fun p => p.1.size).sum
/-- What is wrong with a word by itself: an error's number. -/
def wrongW (s : ByteArray) (c : Int) : Int := if s.size = 0 ∨ c < 1 then 1 else if 65536 < s.size then 4 else 0
/-- What is wrong with a word, by itself or by the one ahead of it. -/
def wrongBy (o : Option (ByteArray × Int)) (p : ByteArray × Int) : Int :=
  if wrongW p.1 p.2 = 0 then (match o with | none => 0 | some q => if ahead q.1 p.1 = true then 0 else 6) else wrongW p.1 p.2
def before (L : Bag) : Nat → Option (ByteArray × Int)
  | 0 => none
  | k + 1 => L[k]?
def checkFrom (k : Nat) (o : Option (ByteArray × Int)) : Bag → Option (Nat × Int)
  | [] => none
  | p :: r => if wrongBy o p = 0 then checkFrom (k + 1) (some p) r else some (k, wrongBy o p)
/-- Where a table is wrong, and its error. -/
def checkOf (L : Bag) : Int × Int :=
  match checkFrom 0 none L with
  | some (k, e) => ((k : Int), e)
  | none => bif (weighOf L).2 then (-1, 0) else ((L.length : Int), 5)
set_option maxRecDepth 100000 in
theorem check_next {L : Bag} {k : Nat} (hk : k < L.length) (h : wrongBy (before L k) L[k] = 0) : checkFrom k (before L k) (L.drop k) = checkFrom (k + 1) (before L (k + 1)) (L.drop (k + 1)) := by
  have e : before L (k + 1) = some L[k] := List.getElem?_eq_getElem hk
  rw [List.drop_eq_getElem_cons hk, e]
  conv => lhs; unfold checkFrom
  rw [if_pos h]
set_option maxRecDepth 100000 in
theorem check_stop {L : Bag} {k : Nat} {z : Int} (hk : k < L.length) (hc : checkFrom 0 none L = checkFrom k (before L k) (L.drop k)) (h : wrongBy (before L k) L[k] = z) (hz : z ≠ 0) : checkOf L = ((k : Int), z) := by
  unfold checkOf
  rw [hc, List.drop_eq_getElem_cons hk]
  unfold checkFrom
  rw [if_neg (by rw [h]; exact hz), h]
set_option maxRecDepth 100000 in
theorem check_end {L : Bag} {k : Nat} (hk : L.length ≤ k) (hc : checkFrom 0 none L = checkFrom k (before L k) (L.drop k)) : checkOf L = bif (weighOf L).2 then (-1, 0) else ((L.length : Int), 5) := by
  unfold checkOf
  rw [hc, List.drop_eq_nil_of_le hk]
  rfl
set_option maxRecDepth 100000 in
theorem wrong_self {o : Option (ByteArray × Int)} {p : ByteArray × Int} {z : Int} (h : wrongW p.1 p.2 = z) (hz : z ≠ 0) : wrongBy o p = z := by
  unfold wrongBy; rw [if_neg (by rw [h]; exact hz), h]
set_option maxRecDepth 100000 in
theorem wrong_first {p : ByteArray × Int} (h : wrongW p.1 p.2 = 0) (L : Bag) : wrongBy (before L 0) p = 0 := by
  unfold wrongBy; rw [if_pos h]; rfl
set_option maxRecDepth 100000 in
theorem wrong_less {L : Bag} {j k : Nat} {p : ByteArray × Int} (hk : j + 1 = k) (hj : j < L.length) (h : wrongW p.1 p.2 = 0) (ha : ahead L[j].1 p.1 = true) : wrongBy (before L k) p = 0 := by
  have e : before L k = some L[j] := by subst hk; exact List.getElem?_eq_getElem hj
  unfold wrongBy; rw [if_pos h, e]; simp only; rw [if_pos ha]
set_option maxRecDepth 100000 in
theorem wrong_more {L : Bag} {j k : Nat} {p : ByteArray × Int} (hk : j + 1 = k) (hj : j < L.length) (h : wrongW p.1 p.2 = 0) (ha : ahead L[j].1 p.1 = false) : wrongBy (before L k) p = 6 := by
  have e : before L k = some L[j] := by subst hk; exact List.getElem?_eq_getElem hj
  unfold wrongBy; rw [if_pos h, e]; simp only; rw [if_neg (by rw [ha]; simp)]
set_option maxRecDepth 100000 in
theorem bytes_step {L : Bag} {k : Nat} (hk : k < L.length) : bytesOf (L.take (k + 1)) = bytesOf (L.take k) + L[k].1.size := by
  unfold bytesOf
  rw [List.take_succ_eq_append_getElem hk, List.map_append, List.sum_append]
  simp
set_option maxRecDepth 100000 in
theorem bytes_le (L : Bag) (k : Nat) : bytesOf (L.take k) ≤ bytesOf L := by
  have h : bytesOf (L.take k) + bytesOf (L.drop k) = bytesOf L := by
    unfold bytesOf
    rw [← List.sum_append, ← List.map_append, List.take_append_drop]
  omega
set_option maxRecDepth 100000 in
/-- The model's own order of texts. -/
theorem less_before : ∀ a b : List UInt8, Op.bytesLess a b = bytesBefore a b
  | [], [] => rfl
  | _ :: _, [] => rfl
  | [], _ :: _ => rfl
  | a :: x, b :: y => by
    unfold Op.bytesLess bytesBefore
    rw [less_before x y]
set_option maxRecDepth 100000 in
theorem op_less (a b : ByteArray) : Op.bytesLess a.toList b.toList = ahead a b := by
  rw [ByteArray.toList_eq, ByteArray.toList_eq, less_before]; rfl
end Go.Proofs.YtnmacalbbmeedaaGreat
/- pairPlaces and checkWord of layer 8; Positions and the document's. -/
namespace Go.Proofs.YtnmacalbbmeedaaGreat
open Go.RowKit

set_option maxRecDepth 100000 in
theorem room_any (s : ByteArray) (w : World) (hs : s.size ≤ 9223372036854775807) : Calls Tryz.prog 85 #[.string s] w fun e w' => e = .returned (.int .i64 (roomOf s)) ∧ w' = w := by
  by_cases h : 0 < s.size
  · have h1 : ¬ ((s.size : Int) - 1 < 0) := by omega
    have e : roomOf s = (s.size : Int) - 1 := by unfold roomOf; omega
    rw [e]
    go_enter Tryz.func85, Tryz.ntmps85
    go_wp2
    go_ret
    exact ⟨rfl, rfl⟩
  · have h1 : (s.size : Int) - 1 < 0 := by omega
    have e : roomOf s = 0 := by unfold roomOf; omega
    rw [e]
    go_enter Tryz.func85, Tryz.ntmps85
    go_wp2
    go_ret
    exact ⟨rfl, rfl⟩
set_option maxRecDepth 100000 in
theorem word_any (s : ByteArray) (c : Int) (w : World) (hs : s.size ≤ 9223372036854775807) :
    Calls Tryz.prog 63 #[.agg #[.string s, .int .i64 c]] w fun e w' => e = .returned (.int .i64 (wrongW s c)) ∧ Below w.heap.size w w' := by
  by_cases h0 : s.size = 0
  · have e : wrongW s c = 1 := if_pos (.inl h0)
    obtain rfl : s = ⟨#[]⟩ := ByteArray.ext (Array.eq_empty_of_size_eq_zero h0)
    rw [e]
    go_enter Tryz.func63, Tryz.ntmps63
    go_wp2
    go_ret
    exact ⟨rfl, (Below.refl _ w).alloc (Nat.le_refl _) _⟩
  · have hne : s.toList.isEmpty = false := some_text fun e => h0 (by rw [← bs_size]; exact congrArg List.length e)
    by_cases hc : c < 1
    · have e : wrongW s c = 1 := if_pos (.inr hc)
      rw [e]
      go_enter Tryz.func63, Tryz.ntmps63
      go_wp2
      go_ret
      exact ⟨rfl, (Below.refl _ w).alloc (Nat.le_refl _) _⟩
    · by_cases hl : 65536 < s.size
      · have e : wrongW s c = 4 := by unfold wrongW; rw [if_neg (by omega), if_pos hl]
        have hI : (65536 : Int) < (s.size : Int) := by omega
        rw [e]
        clear hl
        go_enter Tryz.func63, Tryz.ntmps63
        go_wp2
        go_ret
        exact ⟨rfl, (Below.refl _ w).alloc (Nat.le_refl _) _⟩
      · have e : wrongW s c = 0 := by unfold wrongW; rw [if_neg (by omega), if_neg hl]
        have hI : ¬ (65536 : Int) < (s.size : Int) := by omega
        rw [e]
        clear hl
        go_enter Tryz.func63, Tryz.ntmps63
        go_wp2
        go_ret
        exact ⟨rfl, (Below.refl _ w).alloc (Nat.le_refl _) _⟩
def PosRel (L : Bag) (w : World) (t i : Value) (wr : World) : Prop := ∃ k : Nat, i = .int .i64 (k : Int) ∧ t = .int .i64 (bytesOf (L.take k) : Int) ∧ k ≤ L.length ∧ Below w.heap.size w wr
set_option maxRecDepth 100000 in
theorem posRel_step {L : Bag} {w wr : World} {k n : Nat} (hk : k < L.length) (hn : n = bytesOf (L.take k)) (hb : Below w.heap.size w wr) : PosRel L w (.int .i64 ((n : Int) + (L[k].1.size : Int))) (.int .i64 ((k : Int) + 1)) wr :=
  ⟨k + 1, by simp, by rw [bytes_step hk, hn]; simp, hk, hb⟩
set_option maxRecDepth 100000 in
set_option maxHeartbeats 1000000 in
theorem positions_any (v : Value) (L : Bag) (w : World) (hv : wordsAt w v L) (hL : L.length ≤ 9223372036854775807) (hP : bytesOf L ≤ 9223372036854775807) :
    Calls Tryz.prog 48 #[v] w fun e w' => e = .returned (.int .i64 (bytesOf L : Int)) ∧ Below w.heap.size w w' := by
  have HV := Lib.hid hv
  obtain ⟨a, cap, rfl, hc⟩ := hv
  have HC := Lib.hid hc
  clear hc
  go_enter Tryz.func48, Tryz.ntmps48
  go_wp2
  go_loopw [3, 8] (fun t i wr => PosRel L w t i wr) (fun _ i _ => L.length + 1 - (intOf i).toNat)
  case atStart => exact ⟨0, rfl, rfl, by omega, Below.refl _ _⟩
  case round =>
    obtain ⟨k, rfl, rfl, hk, hb⟩ := hrel
    have HB := Lib.hid hb
    clear hb
    by_cases hgo : k < L.length
    · have hkI : (k : Int) < (L.length : Int) := by omega
      obtain ⟨ad, rfl, _⟩ := HC.out k hgo
      obtain ⟨c0, c1⟩ := words_at HV.out HB.out hgo
      have h1 := bytes_le L (k + 1)
      rw [bytes_step hgo] at h1
      obtain ⟨n, hn⟩ : ∃ n, n = bytesOf (L.take k) := ⟨_, rfl⟩
      rw [← hn] at h1 ⊢
      have HN := Lib.hid hn
      clear hn
      have h2 : (n : Int) + (L[k].1.size : Int) ≤ 9223372036854775807 := by omega
      go_wp2
      go_roundw
      case rel => exact posRel_step hgo HN.out (HB.out.alloc HB.out.size _)
      case measure => simp [intOf]; omega
    · have hkI : ¬ (k : Int) < (L.length : Int) := by omega
      have e : bytesOf (L.take k) = bytesOf L := by rw [List.take_of_length_le (by omega)]
      go_wp2
      go_ret
      exact ⟨rfl, HB.out⟩
def RposRel (L : Bag) (w : World) (t i : Value) (wr : World) : Prop := ∃ k : Nat, i = .int .i64 (k : Int) ∧ t = .int .i64 (bytesOf (L.take k) : Int) ∧ k ≤ L.length ∧ wr = w
set_option maxRecDepth 100000 in
theorem rposRel_step {L : Bag} {w : World} {k n : Nat} (hk : k < L.length) (hn : n = bytesOf (L.take k)) : RposRel L w (.int .i64 ((n : Int) + (L[k].1.size : Int))) (.int .i64 ((k : Int) + 1)) w :=
  ⟨k + 1, by simp, by rw [bytes_step hk, hn]; simp, hk, rfl⟩
set_option maxRecDepth 100000 in
set_option maxHeartbeats 1000000 in
theorem refPositions_any (v : Value) (L : Bag) (w : World) (hv : wordsAt w v L) (hL : L.length ≤ 9223372036854775807) (hP : bytesOf L ≤ 9223372036854775807) :
    Calls Tryz.prog 13 #[v] w fun e w' => e = .returned (.int .i64 (bytesOf L : Int)) ∧ w' = w := by
  obtain ⟨a, cap, rfl, hc⟩ := hv
  have HC := Lib.hid hc
  clear hc
  go_enter Tryz.func13, Tryz.ntmps13
  go_wp2
  go_loopw [3, 4] (fun t i wr => RposRel L w t i wr) (fun _ i _ => L.length + 1 - (intOf i).toNat)
  case atStart => exact ⟨0, rfl, rfl, by omega, rfl⟩
  case round =>
    obtain ⟨k, rfl, rfl, hk, rfl⟩ := hrel
    by_cases hgo : k < L.length
    · have hkI : (k : Int) < (L.length : Int) := by omega
      obtain ⟨ad, rfl, _, c0, c1⟩ := HC.out k hgo
      have h1 := bytes_le L (k + 1)
      rw [bytes_step hgo] at h1
      obtain ⟨n, hn⟩ : ∃ n, n = bytesOf (L.take k) := ⟨_, rfl⟩
      rw [← hn] at h1 ⊢
      have HN := Lib.hid hn
      clear hn
      have h2 : (n : Int) + (L[k].1.size : Int) ≤ 9223372036854775807 := by omega
      go_wp2
      go_roundw
      case rel => exact rposRel_step hgo HN.out
      case measure => simp [intOf]; omega
    · have hkI : ¬ (k : Int) < (L.length : Int) := by omega
      have e : bytesOf (L.take k) = bytesOf L := by rw [List.take_of_length_le (by omega)]
      go_wp2
      go_ret
      exact ⟨rfl, rfl⟩
end Go.Proofs.YtnmacalbbmeedaaGreat
/- Add and Mul of layer 6, and the document's own. -/
namespace Go.Proofs.YtnmacalbbmeedaaGreat
open Go.RowKit

set_option maxRecDepth 100000 in
theorem within_any (n : Int) (w : World) : Calls Tryz.prog 120 #[.int .i64 n] w fun e w' => e = .returned (.bool (decide (0 ≤ n))) ∧ w' = w := by
  go_enter Tryz.func120, Tryz.ntmps120
  go_wp2
  go_ret
  exact ⟨rfl, rfl⟩
set_option maxRecDepth 100000 in
theorem add_any (a b : Int) (w : World) (a0 : -9223372036854775808 ≤ a) (a1 : a ≤ 9223372036854775807) (b0 : -9223372036854775808 ≤ b) (b1 : b ≤ 9223372036854775807) :
    Calls Tryz.prog 104 #[.int .i64 a, .int .i64 b] w fun e w' => e = .returned (.tuple #[.int .i64 (addOf a b).1, .bool (addOf a b).2]) ∧ w' = w := by
  by_cases ha : 0 ≤ a
  · by_cases hb : 0 ≤ b
    · by_cases h : a + b ≤ 9223372036854775807
      · rw [addOf_yes ha hb h]
        have h' : ¬ (9223372036854775807 - b < a) := by omega
        go_enter Tryz.func104, Tryz.ntmps104
        go_wp2_with (go_at_call 120; refine (within_any _ _).mono ?_; rintro e w1 ⟨rfl, rfl⟩)
        go_ret2
        exact ⟨rfl, rfl⟩
      · rw [addOf_no fun k => h k.2.2]
        have h' : 9223372036854775807 - b < a := by omega
        go_enter Tryz.func104, Tryz.ntmps104
        go_wp2_with (go_at_call 120; refine (within_any _ _).mono ?_; rintro e w1 ⟨rfl, rfl⟩)
        go_ret2
        exact ⟨rfl, rfl⟩
    · rw [addOf_no fun k => hb k.2.1]
      go_enter Tryz.func104, Tryz.ntmps104
      go_wp2_with (go_at_call 120; refine (within_any _ _).mono ?_; rintro e w1 ⟨rfl, rfl⟩)
      go_ret2
      exact ⟨rfl, rfl⟩
  · rw [addOf_no fun k => ha k.1]
    go_enter Tryz.func104, Tryz.ntmps104
    go_wp2_with (go_at_call 120; refine (within_any _ _).mono ?_; rintro e w1 ⟨rfl, rfl⟩)
    go_ret2
    exact ⟨rfl, rfl⟩
set_option maxRecDepth 100000 in
theorem refAdd_any (a b : Int) (w : World) (a0 : -9223372036854775808 ≤ a) (a1 : a ≤ 9223372036854775807) (b0 : -9223372036854775808 ≤ b) (b1 : b ≤ 9223372036854775807) :
    Calls Tryz.prog 61 #[.int .i64 a, .int .i64 b] w fun e w' => e = .returned (.tuple #[.int .i64 (addOf a b).1, .bool (addOf a b).2]) ∧ w' = w := by
  by_cases ha : a < 0
  · rw [addOf_no fun k => by omega]
    go_enter Tryz.func61, Tryz.ntmps61
    go_wp2
    go_ret2
    exact ⟨rfl, rfl⟩
  · by_cases hb : b < 0
    · rw [addOf_no fun k => by omega]
      go_enter Tryz.func61, Tryz.ntmps61
      go_wp2
      go_ret2
      exact ⟨rfl, rfl⟩
    · by_cases h : a + b ≤ 9223372036854775807
      · rw [addOf_yes (by omega) (by omega) h]
        have h' : ¬ a + b < 0 := by omega
        go_enter Tryz.func61, Tryz.ntmps61
        go_wp2
        go_ret2
        exact ⟨rfl, rfl⟩
      · rw [addOf_no fun k => h k.2.2]
        have hw : IntKind.i64.wrap (a + b) = a + b - 18446744073709551616 := by rw [IntKind.wrap_i64]; omega
        have h' : a + b - 18446744073709551616 < 0 := by omega
        go_enter Tryz.func61, Tryz.ntmps61
        go_wp2
        go_ret2
        exact ⟨rfl, rfl⟩
set_option maxRecDepth 100000 in
theorem div_in {a b : Int} (hb : 0 < b) : 9223372036854775807 / b < a ↔ 9223372036854775807 < a * b := by
  rw [Int.ediv_lt_iff_lt_mul hb]
set_option maxRecDepth 100000 in
theorem refMul_any (a b : Int) (w : World) (a0 : -9223372036854775808 ≤ a) (a1 : a ≤ 9223372036854775807) (b0 : -9223372036854775808 ≤ b) (b1 : b ≤ 9223372036854775807) :
    Calls Tryz.prog 60 #[.int .i64 a, .int .i64 b] w fun e w' => e = .returned (.tuple #[.int .i64 (mulOf a b).1, .bool (mulOf a b).2]) ∧ w' = w := by
  by_cases ha : a < 0
  · rw [mulOf_no fun k => by omega]
    go_enter Tryz.func60, Tryz.ntmps60
    go_wp2
    go_ret2
    exact ⟨rfl, rfl⟩
  · by_cases hb : b < 0
    · rw [mulOf_no fun k => by omega]
      go_enter Tryz.func60, Tryz.ntmps60
      go_wp2
      go_ret2
      exact ⟨rfl, rfl⟩
    · by_cases hz : 0 < b
      · have hd := div_in (a := a) hz
        have hne : b ≠ 0 := by omega
        by_cases h : a * b ≤ 9223372036854775807
        · rw [mulOf_yes (by omega) (by omega) h]
          have h' : ¬ (9223372036854775807 / b < a) := by omega
          have hm : IntKind.i64.wrap (a * b) = a * b := by rw [IntKind.wrap_i64]; have := Int.mul_nonneg (a := a) (b := b) (by omega) (by omega); omega
          clear hd
          go_enter Tryz.func60, Tryz.ntmps60
          go_wp2
          go_ret2
          exact ⟨rfl, rfl⟩
        · rw [mulOf_no fun k => h k.2.2]
          have h' : 9223372036854775807 / b < a := by omega
          clear hd
          go_enter Tryz.func60, Tryz.ntmps60
          go_wp2
          go_ret2
          exact ⟨rfl, rfl⟩
      · obtain rfl : b = 0 := by omega
        rw [mulOf_yes (by omega) (by omega) (by omega)]
        go_enter Tryz.func60, Tryz.ntmps60
        go_wp2
        go_ret2
        exact ⟨rfl, rfl⟩
end Go.Proofs.YtnmacalbbmeedaaGreat
/- Mul of layer 6. -/
namespace Go.Proofs.YtnmacalbbmeedaaGreat
open Go.RowKit Go.Shelf

/-- The shelf's numbers, as this program has them. -/
def mulRen : Ren := ⟨fun n => if n = 264 then 121 else 0, fun n => if n = 53 then 195 else 194, fun n => n⟩
set_option maxRecDepth 100000 in
theorem mulLays : Lays.n264 Tryz.prog mulRen where
  mixed := by kernel_rfl
  f264 := by kernel_rfl
  t46 := by kernel_rfl
  a46 := fun w => by kernel_rfl
  z46 := fun w => by kernel_rfl
  v46 := fun w => by kernel_rfl
  t53 := by kernel_rfl
  a53 := fun w => by kernel_rfl
  z53 := fun w => by kernel_rfl
  v53 := fun w => by kernel_rfl
set_option maxRecDepth 100000 in
/-- The two halves of a product. -/
theorem mul64_any (a b : Int) (w : World) (a0 : 0 ≤ a) (a1 : a ≤ 9223372036854775807) (b0 : 0 ≤ b) (b1 : b ≤ 9223372036854775807) :
    Calls Tryz.prog 121 #[.int .u64 a, .int .u64 b] w fun e w' => ∃ h l : Int, e = .returned (.tuple #[.int .u64 h, .int .u64 l]) ∧ w' = w ∧ 0 ≤ h ∧ 0 ≤ l ∧ l < 18446744073709551616 ∧ a * b = h * 18446744073709551616 + l := by
  obtain ⟨x, rfl⟩ : ∃ x : Nat, a = (x : Int) := ⟨a.toNat, by omega⟩
  obtain ⟨y, rfl⟩ : ∃ y : Nat, b = (y : Int) := ⟨b.toNat, by omega⟩
  refine (Any.bits_Mul64 mulLays x y (by omega) (by omega) w).mono ?_
  rintro e w' ⟨rfl, rfl⟩
  refine ⟨_, _, rfl, rfl, by omega, by omega, by omega, ?_⟩
  rw [← Int.natCast_mul]
  generalize x * y = p
  omega
set_option maxRecDepth 100000 in
theorem mul_any (a b : Int) (w : World) (a0 : -9223372036854775808 ≤ a) (a1 : a ≤ 9223372036854775807) (b0 : -9223372036854775808 ≤ b) (b1 : b ≤ 9223372036854775807) :
    Calls Tryz.prog 103 #[.int .i64 a, .int .i64 b] w fun e w' => e = .returned (.tuple #[.int .i64 (mulOf a b).1, .bool (mulOf a b).2]) ∧ w' = w := by
  by_cases ha : 0 ≤ a
  · by_cases hb : 0 ≤ b
    · have wa : IntKind.u64.wrap a = a := by rw [IntKind.wrap_u64]; omega
      have wb : IntKind.u64.wrap b = b := by rw [IntKind.wrap_u64]; omega
      by_cases hm : a * b ≤ 9223372036854775807
      · rw [mulOf_yes ha hb hm]
        have hn := Int.mul_nonneg ha hb
        go_enter Tryz.func103, Tryz.ntmps103
        go_wp2_with (go_at_call 120; refine (within_any _ _).mono ?_; rintro e w1 ⟨rfl, rfl⟩)
        refine (mul64_any a b _ ha a1 hb b1).mono ?_
        rintro e w1 ⟨h, l, rfl, rfl, h0, l0, l1, he⟩
        rw [he] at hm hn
        obtain rfl : h = 0 := by omega
        have hp : l = a * b := by omega
        have HP := Lib.hid hp
        clear he hp
        have hl2 : ¬ (9223372036854775807 < l) := by omega
        have hwl : IntKind.i64.wrap l = l := by rw [IntKind.wrap_i64]; omega
        go_wp2
        go_ret2
        exact ⟨by rw [← HP.out]; rfl, rfl⟩
      · rw [mulOf_no fun k => hm k.2.2]
        go_enter Tryz.func103, Tryz.ntmps103
        go_wp2_with (go_at_call 120; refine (within_any _ _).mono ?_; rintro e w1 ⟨rfl, rfl⟩)
        refine (mul64_any a b _ ha a1 hb b1).mono ?_
        rintro e w1 ⟨h, l, rfl, rfl, h0, l0, l1, he⟩
        rw [he] at hm
        by_cases hz : h = 0
        · subst hz
          have hl2 : 9223372036854775807 < l := by omega
          go_wp2
          go_ret2
          exact ⟨rfl, rfl⟩
        · go_wp2
          go_ret2
          exact ⟨rfl, rfl⟩
    · rw [mulOf_no fun k => hb k.2.1]
      go_enter Tryz.func103, Tryz.ntmps103
      have hd : decide (0 ≤ b) = false := by simp; omega
      go_wp2_with (go_at_call 120; refine (within_any _ _).mono ?_; rintro e w1 ⟨rfl, rfl⟩)
      go_ret2
      exact ⟨rfl, rfl⟩
  · rw [mulOf_no fun k => ha k.1]
    go_enter Tryz.func103, Tryz.ntmps103
    go_wp2_with (go_at_call 120; refine (within_any _ _).mono ?_; rintro e w1 ⟨rfl, rfl⟩)
    go_ret2
    exact ⟨rfl, rfl⟩
end Go.Proofs.YtnmacalbbmeedaaGreat
/- Rows of numbers, read or owned. -/
namespace Go.Proofs.YtnmacalbbmeedaaGreat
open Go.ChangeShapes Go.WideShapes Go.RowKit

set_option maxRecDepth 100000 in
theorem Tryz.info3 : (Tryz.prog.info? 3).map (fun i => (i.zero, i.size, i.bytes)) = some (some (.int .i64 0), 1, 8) := by kernel_rfl
/-- The slice value v reads as the numbers Z. -/
def intsAt (w : World) (v : Value) (Z : List Int) : Prop :=
  ∃ a cap, v = .slice a Z.length cap ∧ ∀ j (h : j < Z.length), ∃ ad, a = some ad ∧ ad.block < w.heap.size ∧ w.cell? (ad.add j) = some (.int .i64 Z[j])
/-- All numbers are of 64 bits. -/
def in64 (Z : List Int) : Prop := ∀ z ∈ Z, -9223372036854775808 ≤ z ∧ z ≤ 9223372036854775807
set_option maxRecDepth 100000 in
theorem in64.at {Z : List Int} (h : in64 Z) {j : Nat} (hj : j < Z.length) : -9223372036854775808 ≤ Z[j] ∧ Z[j] ≤ 9223372036854775807 := h _ (List.getElem_mem hj)
set_option maxRecDepth 100000 in
theorem intsAt.below {w w' : World} {v : Value} {Z : List Int} {B : Nat} (h : intsAt w v Z) (hb : Below B w w') (hB : w.heap.size ≤ B) : intsAt w' v Z := by
  obtain ⟨a, cap, rfl, hc⟩ := h
  refine ⟨a, cap, rfl, fun j hj => ?_⟩
  obtain ⟨ad, rfl, hlt, hc'⟩ := hc j hj
  exact ⟨ad, rfl, Nat.lt_of_lt_of_le hlt hb.size, (hb.cell (by rw [add_block]; omega)).trans hc'⟩
set_option maxRecDepth 100000 in
theorem intsAt.drew {w : World} {v : Value} {Z : List Int} (h : intsAt w v Z) (n : Nat) : intsAt (w.drewN n) v Z := h
def icells (Z : List Int) : List Value := Z.map fun z => .int .i64 z
set_option maxRecDepth 100000 in
theorem icells_append (a b : List Int) : icells (a ++ b) = icells a ++ icells b := by simp [icells]
/-- The slice value v owns the numbers Z. -/
def ownI (w : World) (base : Nat) (v : Value) (Z : List Int) : Prop := w.ownsRow base 3 1 v Z.length (icells Z)
set_option maxRecDepth 100000 in
theorem ownI.lt {w : World} {base : Nat} {v : Value} {Z : List Int} (h : ownI w base v Z) : ∀ k, v.ownBlock = some k → base ≤ k ∧ k < w.heap.size := World.ownsRow.lt h
set_option maxRecDepth 100000 in
theorem ownI.kept {w w' : World} {base : Nat} {v : Value} {Z : List Int} (h : ownI w base v Z) (hk : ∀ g, v.ownBlock = some g → w'.heap[g]? = w.heap[g]?) : ownI w' base v Z := by
  refine ⟨h.1, ?_⟩
  rcases h.2 with hn | ⟨g, cap, cur, rfl, hb, hgg, rest⟩
  · exact .inl hn
  · exact .inr ⟨g, cap, cur, rfl, hb, by rw [hk g rfl]; exact hgg, rest⟩
set_option maxRecDepth 100000 in
theorem ownI.reads {w : World} {base : Nat} {v : Value} {Z : List Int} (h : ownI w base v Z) : intsAt w v Z := by
  rcases h.2 with ⟨rfl, h0⟩ | ⟨g, cap, cur, rfl, hb, hg, h1, h2, h3, h4⟩
  · refine ⟨none, 0, by rw [h0], fun j hj => by omega⟩
  · refine ⟨_, cap, rfl, fun j hj => ⟨_, rfl, (Array.getElem?_eq_some_iff.1 hg).1, ?_⟩⟩
    rw [add_zero_off, cell_of_row w g j cur 3 (0, 0) hg]
    have hx : (icells Z)[j]? = some (.int .i64 Z[j]) := by simp [icells, List.getElem?_eq_getElem hj]
    rw [← hx, ← h4, Nat.mul_one, List.getElem?_take_of_lt hj]
    simp
set_option maxRecDepth 100000 in
theorem ownI.form {w : World} {base : Nat} {v : Value} {Z : List Int} (h : ownI w base v Z) : ∃ a cap, v = .slice a Z.length cap := by
  rcases h.2 with ⟨rfl, h0⟩ | ⟨g, cap, cur, rfl, _⟩
  · exact ⟨none, 0, by rw [h0]⟩
  · exact ⟨_, cap, rfl⟩
/-- Block g is a row of the numbers Z that may be written. -/
def rowI (w : World) (g : Nat) (Z : List Int) : Prop := ∃ cs, w.heap[g]? = some (.cells cs 3 (0, 0)) ∧ Z.length ≤ cs.size ∧ ∀ j (h : j < Z.length), cs[j]? = some (.int .i64 Z[j])
set_option maxRecDepth 100000 in
theorem rowI.cells {w : World} {g : Nat} {Z : List Int} (h : rowI w g Z) {j : Nat} (hj : j < Z.length) : w.cell? ⟨g, j, none⟩ = some (.int .i64 Z[j]) ∧ w.frozen? ⟨g, j, none⟩ = false := by
  obtain ⟨cs, hg, _, h1⟩ := h
  exact ⟨by rw [cell_of_row w g j cs 3 (0, 0) hg, h1 j hj], Lib.frozen_of_heap hg j⟩
set_option maxRecDepth 100000 in
theorem rowI.store {w : World} {g : Nat} {Z : List Int} (h : rowI w g Z) (i : Nat) (z : Int) : rowI (w.setCell ⟨g, i, none⟩ (.int .i64 z)) g (Z.set i z) := by
  obtain ⟨cs, hg, h1, h2⟩ := h
  refine ⟨_, heap_setCell_at hg _, by simpa using h1, fun j hj => ?_⟩
  have hj' : j < Z.length := by simpa using hj
  rw [Array.getElem?_setIfInBounds, List.getElem_set]
  by_cases e : i = j
  · subst e; rw [if_pos rfl, if_pos rfl, if_pos (by omega)]
  · rw [if_neg e, if_neg e, h2 j hj']
set_option maxRecDepth 100000 in
theorem rowI.kept {w w' : World} {g : Nat} {Z : List Int} (h : rowI w g Z) (hk : w'.heap[g]? = w.heap[g]?) : rowI w' g Z := by
  obtain ⟨cs, hg, h1⟩ := h
  exact ⟨cs, hk.trans hg, h1⟩
set_option maxRecDepth 100000 in
theorem rowI.lt {w : World} {g : Nat} {Z : List Int} (h : rowI w g Z) : g < w.heap.size := by
  obtain ⟨cs, hg, _⟩ := h
  exact (Array.getElem?_eq_some_iff.1 hg).1
set_option maxRecDepth 100000 in
theorem rowI.reads {w : World} {g : Nat} {Z : List Int} (h : rowI w g Z) (cap : Nat) : intsAt w (.slice (some ⟨g, 0, none⟩) Z.length cap) Z :=
  ⟨_, cap, rfl, fun j hj => ⟨_, rfl, h.lt, by rw [add_zero_off]; exact (h.cells hj).1⟩⟩
set_option maxRecDepth 100000 in
theorem ownI.row {w : World} {b g n cap : Nat} {Z : List Int} (h : ownI w b (.slice (some ⟨g, 0, none⟩) n cap) Z) : rowI w g Z := by
  rcases h.2 with ⟨h0, _⟩ | ⟨g', cap', cur, hv, hb, hg, h1, h2, h3, h4⟩
  · cases h0
  · cases hv
    refine ⟨cur, hg, by omega, fun j hj => ?_⟩
    have hx : (icells Z)[j]? = some (.int .i64 Z[j]) := by simp [icells, List.getElem?_eq_getElem hj]
    rw [← hx, ← h4, Nat.mul_one, List.getElem?_take_of_lt hj]
    simp
set_option maxRecDepth 100000 in
/-- A fresh row of zeros. -/
theorem ownI_zeros {w : World} {b n : Nat} {v : Value} (h : w.ownsRow b 3 1 v n (madeCells (Value.int .i64 0).cells (n * 1)).toList) : ownI w b v (List.replicate n 0) := by
  unfold ownI
  have e : (madeCells (Value.int .i64 0).cells (n * 1)).toList = icells (List.replicate n 0) := by
    refine List.ext_getElem (by simp [madeCells, icells]) fun j h1 h2 => ?_
    simp [madeCells, Value.cells, icells, Nat.mod_one]
  rw [← e, List.length_replicate]; exact h
set_option maxRecDepth 100000 in
theorem ownI.app {w2 : World} {b : Nat} {r : Value} {A B : List Int} {n : Nat} (h : w2.ownsRow b 3 1 r (A.length + n) (icells A ++ icells B)) (hn : n = B.length) : ownI w2 b r (A ++ B) := by
  unfold ownI; rw [List.length_append, icells_append, ← hn]; exact h
set_option maxRecDepth 100000 in
/-- An owned row, written at one place. -/
theorem ownI.store {w : World} {b g n cap : Nat} {Z : List Int} (h : ownI w b (.slice (some ⟨g, 0, none⟩) n cap) Z) (i : Nat) (z : Int) : ownI (w.setCell ⟨g, i, none⟩ (.int .i64 z)) b (.slice (some ⟨g, 0, none⟩) n cap) (Z.set i z) := by
  rcases h.2 with ⟨h0, _⟩ | ⟨g', cap', cur, hv, hb, hg, h1, h2, h3, h4⟩
  · cases h0
  · cases hv
    refine ⟨by simp [icells], .inr ⟨g, cap, cur.setIfInBounds i (.int .i64 z), by simp, hb, heap_setCell_at hg _, by simpa using h1, by simpa using h2, by simpa using h3, ?_⟩⟩
    simp only [List.length_set, Nat.mul_one] at h4 ⊢
    rw [Array.toList_setIfInBounds, List.take_set, h4]
    simp [icells, List.map_set]
end Go.Proofs.YtnmacalbbmeedaaGreat
/- Sum and Dot of layer 6, and the document's Dot. -/
namespace Go.Proofs.YtnmacalbbmeedaaGreat
open Go.RowKit

set_option maxRecDepth 100000 in
theorem drewN_drewN (w : World) (n m : Nat) : (w.drewN n).drewN m = w.drewN (n + m) := by
  unfold World.drewN; simp only [Nat.add_assoc]
set_option maxRecDepth 100000 in
theorem drawn_more {w wr : World} {n : Nat} (h : wr = w.drewN n) (m : Nat) : ∃ k, wr.drewN m = w.drewN k := ⟨n + m, by rw [h]; exact drewN_drewN _ _ _⟩
/-- The sum of the products up to place k. -/
def DotRel (A B : List Int) (w : World) (t i : Value) (wr : World) : Prop :=
  ∃ (k : Nat) (s : Int), i = .int .i64 (k : Int) ∧ t = .int .i64 s ∧ k ≤ A.length ∧ 0 ≤ s ∧ s ≤ 9223372036854775807 ∧ dotFrom 0 A B = dotFrom s (A.drop k) (B.drop k) ∧ ∃ n, wr = w.drewN n
set_option maxRecDepth 100000 in
theorem dot_next {A B : List Int} {k : Nat} {s p : Int} {b : Bool} (ha : k < A.length) (hb : k < B.length) (he : dotFrom 0 A B = dotFrom s (A.drop k) (B.drop k)) (hm : mulOf A[k] B[k] = (p, b)) :
    dotFrom 0 A B = bif b then (bif (addOf s p).2 then dotFrom (addOf s p).1 (A.drop (k + 1)) (B.drop (k + 1)) else (0, false)) else (0, false) := by
  rw [he, List.drop_eq_getElem_cons ha, List.drop_eq_getElem_cons hb, dotFrom, hm]
set_option maxRecDepth 100000 in
theorem dotRel_step {A B : List Int} {w wr : World} {k : Nat} {s p q : Int} (ha : k < A.length) (hb : k < B.length) (he : dotFrom 0 A B = dotFrom s (A.drop k) (B.drop k)) (hm : mulOf A[k] B[k] = (p, true)) (hq : addOf s p = (q, true)) (hw : ∃ n, wr = w.drewN n) :
    DotRel A B w (.int .i64 q) (.int .i64 ((k : Int) + 1)) wr := by
  have h1 := addOf_in s p
  rw [hq] at h1
  refine ⟨k + 1, q, by simp, rfl, ha, h1.1, h1.2, ?_, hw⟩
  rw [dot_next ha hb he hm, hq]; rfl
set_option maxRecDepth 100000 in
theorem dot_apart {A B : List Int} (h : A.length ≠ B.length) : ∀ t, dotFrom t A B = (0, false) := by
  induction A generalizing B with
  | nil => intro t; cases B with | nil => exact absurd rfl h | cons b B => rfl
  | cons a A ih =>
    intro t
    cases B with
    | nil => rfl
    | cons b B =>
      rw [dotFrom, ih (by simpa using h)]
      cases (mulOf a b).2 <;> cases (addOf t (mulOf a b).1).2 <;> rfl
set_option maxRecDepth 100000 in
set_option maxHeartbeats 400000 in
theorem dot_any (v x : Value) (A B : List Int) (w : World) (hv : intsAt w v A) (hx : intsAt w x B) (hA : A.length ≤ maxLen) (ha : in64 A) (hb : in64 B) :
    Calls Tryz.prog 86 #[v, x] w fun e w' => e = .returned (.tuple #[.int .i64 (dotFrom 0 A B).1, .bool (dotFrom 0 A B).2]) ∧ ∃ n, w' = w.drewN n := by
  obtain ⟨aA, capA, rfl, hcA⟩ := hv
  obtain ⟨aB, capB, rfl, hcB⟩ := hx
  have HA := Lib.hid hcA; have HB := Lib.hid hcB
  clear hcA hcB
  unfold maxLen at hA
  by_cases hl : A.length = B.length
  case neg =>
    have hst := dot_apart hl 0
    have hlI : ¬ ((A.length : Int) = (B.length : Int)) := by omega
    go_enter Tryz.func86, Tryz.ntmps86
    go_wp2
    go_ret2
    rw [hst]
    exact ⟨rfl, 0, rfl⟩
  go_enter Tryz.func86, Tryz.ntmps86
  rw [← hl]
  have HL := Lib.hid hl
  clear hl
  go_wp2
  go_loopw [6, 17] (fun t i wr => DotRel A B w t i wr) (fun _ i _ => A.length + 1 - (intOf i).toNat)
  case atStart => exact ⟨0, 0, rfl, rfl, by omega, by decide, by decide, rfl, 0, rfl⟩
  case round =>
    obtain ⟨k, s, rfl, rfl, hk, hs0, hs1, he, n, hwr⟩ := hrel
    have HE := Lib.hid he; have HW := Lib.hid hwr
    clear he hwr
    by_cases hgo : k < A.length
    · have hgo2 : k < B.length := by rw [← HL.out]; exact hgo
      have hkI : (k : Int) < (A.length : Int) := by omega
      obtain ⟨ad, rfl, hba, hcell⟩ := HA.out k hgo
      obtain ⟨ae, rfl, hbb, hcel2⟩ := HB.out k hgo2
      obtain ⟨z0, z1⟩ := ha.at hgo
      obtain ⟨y0, y1⟩ := hb.at hgo2
      have cM := fun w => mul_any A[k] B[k] w z0 z1 y0 y1
      obtain ⟨⟨p, bp⟩, hp⟩ : ∃ r, mulOf A[k] B[k] = r := ⟨_, rfl⟩
      have hpi := mulOf_in A[k] B[k]
      rw [hp] at cM hpi
      have cA := fun w => add_any s p w (by omega) (by omega) (by have := hpi.1; simp only at this; omega) hpi.2
      obtain ⟨⟨q, bq⟩, hq⟩ : ∃ r, addOf s p = r := ⟨_, rfl⟩
      rw [hq] at cA
      have HP := Lib.hid hp; have HQ := Lib.hid hq
      have HN := Lib.hid (dot_next hgo hgo2 HE.out hp)
      clear hp hq
      have e1 : ((k : Int)).toNat = k := by omega
      have e2 : (0 : Int) ≤ (k : Int) := by omega
      replace hcell : wr.cell? (ad.add k) = some (.int .i64 A[k]) := by rw [HW.out]; exact hcell
      replace hcel2 : wr.cell? (ae.add k) = some (.int .i64 B[k]) := by rw [HW.out]; exact hcel2
      cases bp with
      | false =>
        have hst : dotFrom 0 A B = (0, false) := HN.out
        go_wp2
        go_quiet ((go_at_call 103; exact Calls.quiet_of_same (cM _)))
        go_wp2
        go_ret2
        rw [hst]
        exact ⟨rfl, drawn_more HW.out _⟩
      | true =>
        cases bq with
        | false =>
          have hst : dotFrom 0 A B = (0, false) := by rw [HN.out, HQ.out]; rfl
          go_wp2
          go_quiet ((go_at_call 103; exact Calls.quiet_of_same (cM _)))
          go_wp2_with (go_at_call 104; refine (cA _).mono ?_; rintro e w1 ⟨rfl, rfl⟩)
          go_ret2
          rw [hst]
          exact ⟨rfl, drawn_more HW.out _⟩
        | true =>
          go_wp2
          go_quiet ((go_at_call 103; exact Calls.quiet_of_same (cM _)))
          go_wp2_with (go_at_call 104; refine (cA _).mono ?_; rintro e w1 ⟨rfl, rfl⟩)
          go_roundw
          case rel => exact dotRel_step hgo hgo2 HE.out HP.out HQ.out (drawn_more HW.out _)
          case measure => simp [intOf]; omega
    · have hkI : ¬ (k : Int) < (A.length : Int) := by omega
      have hst : dotFrom 0 A B = (s, true) := by rw [HE.out, List.drop_of_length_le (by omega), List.drop_of_length_le (by rw [← HL.out]; omega)]; rfl
      go_wp2
      go_ret2
      exact ⟨rfl, n, HW.out⟩
end Go.Proofs.YtnmacalbbmeedaaGreat
