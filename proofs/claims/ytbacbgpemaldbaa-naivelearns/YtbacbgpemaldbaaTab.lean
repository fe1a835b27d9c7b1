/- What a table's calls answer, on plain lists. -/
import Derived.Test.YtbacbgpemaldbaaMerge
namespace Go.Proofs.Ytbacbgpemaldbaa

/-- At how many places of a word two bytes stand behind one another. -/
def roomOf (s : ByteArray) : Int := ((s.size - 1 : Nat) : Int)
def countsOf (L : Bag) : List Int := L.map fun p => p.2
def roomsOf (L : Bag) : List Int := L.map fun p => roomOf p.1
/-- A table's weight, if it is within. -/
def weighOf (L : Bag) : Int × Bool := dotFrom 0 (countsOf L) (roomsOf L)
/-- A table's positions. -/
def bytesOf (L : Bag) : Nat := (L.map fun p => p.1.size).sum
/-- What is wrong with a word by itself: an error's number. -/
def wrongW (s : ByteArray) (c : Int) : Int := if s.size = 0 ∨ c < 1 then 1 else if 65536 < s.size then 4 else 0
/-- What is wrong with a word, by itself or by the one ahead of it. -/
def wrongBy (o : Option (ByteArray × Int)) (p : ByteArray × Int) : Int :=
  if wrongW p.1 p.2 = 0 then (match o with | none => 0 | some q => if ahead q.1 p.1 = true then 0 else 6) else wrongW p.1 p.2
def before (L : Bag) : Nat → Option (ByteArray × Int)
  | 0 => none
  | k + 1 => L[k]?
def checkFrom (k : Nat) (o : Option (ByteArray × Int)) : Bag → Option (Nat × Int)
  | [] => none
  | p :: r => if wrongBy o p = 0 then checkFrom (k + 1) (some p) r else some (k, wrongBy o p)
/-- Where a table is wrong, and its error. -/
def checkOf (L : Bag) : Int × Int :=
  match checkFrom 0 none L with
  | some (k, e) => ((k : Int), e)
  | none => bif (weighOf L).2 then (-1, 0) else ((L.length : Int), 5)
set_option maxRecDepth 100000 in
theorem check_next {L : Bag} {k : Nat} (hk : k < L.length) (h : wrongBy (before L k) L[k] = 0) : checkFrom k (before L k) (L.drop k) = checkFrom (k + 1) (before L (k + 1)) (L.drop (k + 1)) := by
  have e : before L (k + 1) = some L[k] := List.getElem?_eq_getElem hk
  rw [List.drop_eq_getElem_cons hk, e]
  conv => lhs; unfold checkFrom
  rw [if_pos h]
set_option maxRecDepth 100000 in
theorem check_stop {L : Bag} {k : Nat} {z : Int} (hk : k < L.length) (hc : checkFrom 0 none L = checkFrom k (before L k) (L.drop k)) (h : wrongBy (before L k) L[k] = z) (hz : z ≠ 0) : checkOf L = ((k : Int), z) := by
  unfold checkOf
  rw [hc, List.drop_eq_getElem_cons hk]
  unfold checkFrom
  rw [if_neg (by rw [h]; exact hz), h]
set_option maxRecDepth 100000 in
theorem check_end {L : Bag} {k : Nat} (hk : L.length ≤ k) (hc : checkFrom 0 none L = checkFrom k (before L k) (L.drop k)) : checkOf L = bif (weighOf L).2 then (-1, 0) else ((L.length : Int), 5) := by
  unfold checkOf
  rw [hc, List.drop_eq_nil_of_le hk]
  rfl
set_option maxRecDepth 100000 in
theorem wrong_self {o : Option (ByteArray × Int)} {p : ByteArray × Int} {z : Int} (h : wrongW p.1 p.2 = z) (hz : z ≠ 0) : wrongBy o p = z := by
  unfold wrongBy; rw [if_neg (by rw [h]; exact hz), h]
set_option maxRecDepth 100000 in
theorem wrong_first {p : ByteArray × Int} (h : wrongW p.1 p.2 = 0) (L : Bag) : wrongBy (before L 0) p = 0 := by
  unfold wrongBy; rw [if_pos h]; rfl
set_option maxRecDepth 100000 in
theorem wrong_less {L : Bag} {j k : Nat} {p : ByteArray × Int} (hk : j + 1 = k) (hj : j < L.length) (h : wrongW p.1 p.2 = 0) (ha : ahead L[j].1 p.1 = true) : wrongBy (before L k) p = 0 := by
  have e : before L k = some L[j] := by subst hk; exact List.getElem?_eq_getElem hj
  unfold wrongBy; rw [if_pos h, e]; simp only; rw [if_pos ha]
set_option maxRecDepth 100000 in
theorem wrong_more {L : Bag} {j k : Nat} {p : ByteArray × Int} (hk : j + 1 = k) (hj : j < L.length) (h : wrongW p.1 p.2 = 0) (ha : ahead L[j].1 p.1 = false) : wrongBy (before L k) p = 6 := by
  have e : before L k = some L[j] := by subst hk; exact List.getElem?_eq_getElem hj
  unfold wrongBy; rw [if_pos h, e]; simp only; rw [if_neg (by rw [ha]; simp)]
set_option maxRecDepth 100000 in
theorem wrongW_in (s : ByteArray) (c : Int) : wrongW s c = 0 ∨ wrongW s c = 1 ∨ wrongW s c = 4 := by
  unfold wrongW
  split
  · exact .inr (.inl rfl)
  · split
    · exact .inr (.inr rfl)
    · exact .inl rfl
set_option maxRecDepth 100000 in
theorem bytes_step {L : Bag} {k : Nat} (hk : k < L.length) : bytesOf (L.take (k + 1)) = bytesOf (L.take k) + L[k].1.size := by
  unfold bytesOf
  rw [List.take_succ_eq_append_getElem hk, List.map_append, List.sum_append]
  simp
set_option maxRecDepth 100000 in
theorem bytes_le (L : Bag) (k : Nat) : bytesOf (L.take k) ≤ bytesOf L := by
  have h : bytesOf (L.take k) + bytesOf (L.drop k) = bytesOf L := by
    unfold bytesOf
    rw [← List.sum_append, ← List.map_append, List.take_append_drop]
  omega
set_option maxRecDepth 100000 in
theorem bytes_few : ∀ {L : Bag}, (∀ p ∈ L, p.1.size ≤ 100) → bytesOf L ≤ 100 * L.length
  | [], _ => by simp [bytesOf]
  | p :: r, h => by
    have h1 := bytes_few fun q hq => h q (List.mem_cons_of_mem _ hq)
    have h2 := h p (List.mem_cons_self ..)
    unfold bytesOf at h1 ⊢
    rw [List.map_cons, List.sum_cons, List.length_cons]
    omega
set_option maxRecDepth 100000 in
/-- The model's own order of texts. -/
theorem less_before : ∀ a b : List UInt8, Op.bytesLess a b = bytesBefore a b
  | [], [] => rfl
  | _ :: _, [] => rfl
  | [], _ :: _ => rfl
  | a :: x, b :: y => by
    unfold Op.bytesLess bytesBefore
    rw [less_before x y]
set_option maxRecDepth 100000 in
theorem op_less (a b : ByteArray) : Op.bytesLess a.toList b.toList = ahead a b := by
  rw [ByteArray.toList_eq, ByteArray.toList_eq, less_before]; rfl
end Go.Proofs.Ytbacbgpemaldbaa
