/- Words for byte rows that a call makes itself: what they hold, and their text. -/
import Derived.WalkKit
import Derived.Deep.AppendLies
import Derived.Laws.IdiomStrings
import Derived.Lib.OthersKept
import Derived.WalkSmall
namespace Go.Proofs.Ytbacbgpemaldbaa
open Go.RowKit

/-- The cells of a list of bytes. -/
def bcells (l : List UInt8) : List Value := l.map fun b => Value.int .u8 (b.toNat : Int)
set_option maxRecDepth 100000 in
theorem bcells_len (l : List UInt8) : (bcells l).length = l.length := by simp [bcells]
set_option maxRecDepth 100000 in
theorem bcells_append (a b : List UInt8) : bcells (a ++ b) = bcells a ++ bcells b := by simp [bcells]
set_option maxRecDepth 100000 in
theorem bcells_one (l : List UInt8) : ∀ u ∈ bcells l, u.oneCell' = true := by
  intro u hu
  simp only [bcells, List.mem_map] at hu
  obtain ⟨b, _, rfl⟩ := hu
  rfl

set_option maxRecDepth 100000 in
theorem ret_text {a b : List UInt8} (h : a = b) : Ending.returned (.string ⟨a.toArray⟩) = .returned (.string ⟨b.toArray⟩) := by rw [h]
set_option maxRecDepth 100000 in
theorem ret_text2 {a b : List UInt8} {p q : Bool} (h : a = b) (g : p = q) : Ending.returned (.tuple #[.string ⟨a.toArray⟩, .bool p]) = .returned (.tuple #[.string ⟨b.toArray⟩, .bool q]) := by rw [h, g]

/-- The slice value v owns the bytes l. -/
def ownB (w : World) (base : Nat) (e : TypeId) (v : Value) (l : List UInt8) : Prop := w.ownsRow base e 1 v l.length (bcells l)

set_option maxRecDepth 100000 in
theorem ownB.text {P : Program} {w : World} {base : Nat} {e : TypeId} {v : Value} {l : List UInt8} (h : ownB w base e v l) (src dst : TypeId) (hs : P.underlying src = some (.slice e)) (he : P.underlying e = some (.int .u8)) (hd : P.underlying dst = some .string) :
    (convert src dst v).run P w = .ok (.string ⟨l.toArray⟩) w := by
  rcases h.2 with ⟨rfl, h0⟩ | ⟨g, cap, cur, rfl, hb, hg, h1, h2, h3, h4⟩
  · have hl : l = [] := List.eq_nil_of_length_eq_zero h0
    subst hl
    rw [run_convert_bytes_string w src dst e none 0 0 hs he hd]
    simp [Conv.bytesToString, Sem.run_pure]
    rfl
  · refine run_convert_bytes_back w src dst e _ cap l hs he hd fun j hj => ?_
    have hx : (bcells l)[j]? = some (.int .u8 (l[j].toNat : Int)) := by simp [bcells, List.getElem?_eq_getElem hj]
    have hadd : (⟨g, 0, none⟩ : Addr).add j = ⟨g, j, none⟩ := by unfold Addr.add; split <;> simp_all
    rw [hadd, cell_of_row w g j cur e (0, 0) hg, ← hx, ← h4, Nat.mul_one, List.getElem?_take_of_lt hj]
    simp
set_option maxRecDepth 100000 in
theorem ownB.block_ge {w : World} {base : Nat} {e : TypeId} {v : Value} {l : List UInt8} (h : ownB w base e v l) : ∀ g, v.ownBlock = some g → base ≤ g := by
  intro g hg
  rcases h.2 with ⟨rfl, h0⟩ | ⟨g', cap, cur, rfl, hb, _⟩
  · simp [Value.ownBlock] at hg
  · simp [Value.ownBlock] at hg; omega
set_option maxRecDepth 100000 in
theorem below_step {B : Nat} {w wr w2 : World} {base : Nat} {e t : TypeId} {v : Value} {l : List UInt8} {cs : Array Value} (h : ownB wr base e v l) (hB : B ≤ base) (hbel : Below B w wr) (hs : B ≤ wr.heap.size) (hg : (wr.drew.alloc (.cells cs t)).grownBy w2 v.ownBlock) : Below B w w2 :=
  ((hbel.drew).alloc (by simpa using hs) _).grown hg (by simp; omega) (fun g hg' => Nat.le_trans hB (h.block_ge g hg'))

/-! A string's iterator beside an owned row. -/
set_option maxRecDepth 100000 in
theorem own_iter_ne {w : World} {base size : Nat} {e : TypeId} {v : Value} {n : Nat} {xs : List Value} (h : w.ownsRow base e size v n xs) {K : Nat} {s : ByteArray} {p : Nat} (hk : w.heap[K]? = some (.stringIter s p)) : some K ≠ v.ownBlock := by
  rcases h.2 with ⟨rfl, h0⟩ | ⟨g', cap, cur, rfl, hb, hg, _⟩
  · simp [Value.ownBlock]
  · intro he
    have : K = g' := by simpa [Value.ownBlock] using he
    subst this
    rw [hk] at hg
    cases hg
set_option maxRecDepth 100000 in
theorem own_iterAt {w : World} {base size : Nat} {e : TypeId} {v : Value} {n : Nat} {xs : List Value} (h : w.ownsRow base e size v n xs) {K : Nat} {s : ByteArray} {p : Nat} (hk : w.heap[K]? = some (.stringIter s p)) (p' : Nat) : (w.iterAt K s p').ownsRow base e size v n xs := by
  have hne := own_iter_ne h hk
  obtain ⟨h1, h2⟩ := h
  refine ⟨h1, ?_⟩
  rcases h2 with h2 | ⟨g, cap, cur, rfl, b, c, d⟩
  · exact .inl h2
  · refine .inr ⟨g, cap, cur, rfl, b, ?_, d⟩
    rw [Lib.iterAt_other _ _ _ _ _ (fun e => hne (by simp [Value.ownBlock, e]))]
    exact c
set_option maxRecDepth 100000 in
theorem iter_grown {w w' : World} {row : Option Nat} (hg : w.grownBy w' row) {K : Nat} {s : ByteArray} {p : Nat} (hk : w.heap[K]? = some (.stringIter s p)) (hne : some K ≠ row) : w'.heap[K]? = some (.stringIter s p) :=
  (hg.block K (Array.getElem?_eq_some_iff.1 hk).1 hne).trans hk
set_option maxRecDepth 100000 in
theorem iter_alloc {w : World} (o : Obj) {K : Nat} {s : ByteArray} {p : Nat} (hk : w.heap[K]? = some (.stringIter s p)) : (w.alloc o).heap[K]? = some (.stringIter s p) :=
  (Below.heap_alloc w o K (Array.getElem?_eq_some_iff.1 hk).1).trans hk
/-! Texts by lists. -/
set_option maxRecDepth 100000 in
theorem take_snoc (s : ByteArray) (k : Nat) (h : k < s.size) : s.data.toList.take (k + 1) = s.data.toList.take k ++ [s[k]] := by
  rw [List.take_succ_eq_append_getElem (by simpa using h)]; rfl
set_option maxRecDepth 100000 in
theorem take_len (s : ByteArray) (k : Nat) (h : k ≤ s.size) : (s.data.toList.take k).length = k := by
  rw [List.length_take, Array.length_toList]; exact Nat.min_eq_left h
set_option maxRecDepth 100000 in
theorem take_all (s : ByteArray) (k : Nat) (h : s.size ≤ k) : s.data.toList.take k = s.data.toList := List.take_of_length_le (by simpa using h)
set_option maxRecDepth 100000 in
theorem ba_eq (s : ByteArray) : (⟨s.data.toList.toArray⟩ : ByteArray) = s := by cases s; simp
set_option maxRecDepth 100000 in
theorem size_toList (s : ByteArray) : s.data.toList.length = s.size := by rw [Array.length_toList]; rfl
set_option maxRecDepth 100000 in
theorem getD_at (s : ByteArray) (k : Nat) (h : k < s.size) : s.data.toList.getD k 0 = s[k] := by
  have h' : k < s.data.toList.length := by simpa using h
  rw [List.getD_eq_getElem?_getD, List.getElem?_eq_getElem h']
  rfl
set_option maxRecDepth 100000 in
theorem retI {k : IntKind} {a b : Int} (h : a = b) : Ending.returned (.int k a) = .returned (.int k b) := by rw [h]
set_option maxRecDepth 100000 in
theorem retB {p q : Bool} (h : p = q) : Ending.returned (.bool p) = .returned (.bool q) := by rw [h]
end Go.Proofs.Ytbacbgpemaldbaa
