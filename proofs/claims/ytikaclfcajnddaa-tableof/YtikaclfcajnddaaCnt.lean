/- A counter: its memory, New, Add, Count, Len. -/
import Derived.Test.YtikaclfcajnddaaSame
import Derived.Test.YtikaclfcajnddaaPair
import Derived.Maps.RangeWalk
import Derived.Maps.OwnOps
namespace Go.Proofs.Ytikaclfcajnddaa
open Go.RowKit Go.Maps

theorem law9 : Keyed Try.prog 9 := string_keyed Try.underlying9
theorem zero3 (w : World) : (zeroValue 3).run Try.prog w = .ok (.int .i64 0) w := by kernel_rfl
/-- Block m, if any, is a map of the words L. -/
def mapIs (w : World) (b : Option Nat) (L : Bag) : Prop :=
  match b with
  | none => L = []
  | some m => w.ownsMap Try.prog 9 (plainElem Try.prog 3) m L.length (bagD L)
/-- The counter in block K, whose map is b, has the words L. -/
def Cnt (w : World) (K : Nat) (b : Option Nat) (L : Bag) : Prop := w.heap[K]? = some (.cells #[.map b] 62 (0, 0)) ∧ Sound L ∧ mapIs w b L
/-- The blocks of a counter. -/
def mineC (K : Nat) (b : Option Nat) (k : Nat) : Prop := k = K ∨ some k = b
theorem mapIs.kept {w w' : World} {b : Option Nat} {L : Bag} (h : mapIs w b L) (hk : ∀ m, b = some m → w'.heap[m]? = w.heap[m]?) : mapIs w' b L := by
  cases b with
  | none => exact h
  | some m =>
    obtain ⟨es, clock, hb, rest⟩ := h
    exact ⟨es, clock, (hk m rfl).trans hb, rest⟩
theorem mapIs.lt {w : World} {m : Nat} {L : Bag} (h : mapIs w (some m) L) : m < w.heap.size := World.ownsMap.lt h
theorem Cnt.lt {w : World} {K : Nat} {b : Option Nat} {L : Bag} (h : Cnt w K b L) : K < w.heap.size := (Array.getElem?_eq_some_iff.1 h.1).1
theorem Cnt.kept {w w' : World} {K : Nat} {b : Option Nat} {L : Bag} (h : Cnt w K b L) (hk : ∀ k, k < w.heap.size → mineC K b k → w'.heap[k]? = w.heap[k]?) : Cnt w' K b L :=
  ⟨(hk K h.lt (.inl rfl)).trans h.1, h.2.1, h.2.2.kept fun m e => by subst e; exact hk m h.2.2.lt (.inr rfl)⟩
theorem Cnt.below {w w' : World} {K : Nat} {b : Option Nat} {L : Bag} (h : Cnt w K b L) (hb : Below w.heap.size w w') : Cnt w' K b L := h.kept fun k hk _ => hb.block k hk
theorem Cnt.drewN {w : World} {K : Nat} {b : Option Nat} {L : Bag} (h : Cnt w K b L) (n : Nat) : Cnt (w.drewN n) K b L := h.kept fun _ _ _ => rfl
theorem Cnt.cell {w : World} {K : Nat} {b : Option Nat} {L : Bag} (h : Cnt w K b L) : w.cell? ⟨K, 0, none⟩ = some (.map b) ∧ w.frozen? ⟨K, 0, none⟩ = false :=
  ⟨by rw [cell_of_row w K 0 _ 62 (0, 0) h.1]; rfl, Lib.frozen_of_heap h.1 0⟩
/-- A row of words is no part of a counter. -/
theorem Cnt.apart {w : World} {K : Nat} {b : Option Nat} {L : Bag} (h : Cnt w K b L) {k : Nat} {cs : Array Value} (hk : w.heap[k]? = some (.cells cs 36 (0, 0))) : ¬ mineC K b k := by
  rintro (rfl | e)
  · have := h.1; rw [hk] at this; cases this
  · subst e
    obtain ⟨es, clock, hb, _⟩ := h.2.2
    rw [hk] at hb; cases hb
theorem ownW.keptC {w w' : World} {base K : Nat} {b : Option Nat} {v : Value} {L X : Bag} (h : ownW w base v X) (hc : Cnt w K b L) (hk : Kept (mineC K b) w w') : ownW w' base v X :=
  h.kept fun g hg => hk.block g (h.lt g hg).2 (by obtain ⟨cs, hb⟩ := h.block g hg; exact hc.apart hb)
theorem tight {w : World} {m n : Nat} {L : Bag} (h : w.ownsMap Try.prog 9 (plainElem Try.prog 3) m n (bagD L)) : w.ownsMap Try.prog 9 (plainElem Try.prog 3) m L.length (bagD L) := by
  obtain ⟨es, clock, hb, F, hs, hD⟩ := h
  refine ⟨es, clock, hb, F, ?_, hD⟩
  have e : ents L = (es.toList.map (WideElems.rg Try.prog 9 (plainElem Try.prog 3))).foldr DataW.insert [] := by
    unfold bagD at hD
    injection hD
  have := congrArg List.length e
  rw [length_sorted] at this
  simp [ents] at this
  omega
theorem look_run {w : World} {b : Option Nat} {L : Bag} (h : mapIs w b L) (s : ByteArray) (hs : s.size ≤ 9223372036854775807) : (Instr.lookup 60 (.map b) (.string s) false).run Try.prog w = .ok (.int .i64 (countOf L s)) w := by
  have hkey := Go.WideMaps.keyOf_string_mk (P := Try.prog) Try.underlying9 (s := s) (by unfold maxLen; exact hs)
  cases b with
  | none =>
    have e : L = [] := h
    subst e
    exact look_nil false law9 Try.underlying60 (zero3 w) hkey
  | some m =>
    obtain ⟨c, hrun, hat, _⟩ := World.ownsMap.lookup_int h law9 Try.underlying60 Try.underlying3 (zero3 w) hkey
    rw [atKey_count] at hat
    simp only [DataW.lit.injEq, Lit.int.injEq, true_and] at hat
    rw [hrun, hat]
theorem len_run {w : World} {b : Option Nat} {L : Bag} (h : mapIs w b L) (ty : TypeId) : (Builtin.len_ #[60] ty #[.map b]).run Try.prog w = .ok (.int .i64 (L.length : Int)) w := by
  cases b with
  | none =>
    have e : L = [] := h
    subst e
    exact len_nil Try.underlying60 ty
  | some m =>
    rw [World.ownsMap.len h Try.underlying60 ty, size_bagD]
theorem put_run {w : World} {m : Nat} {L : Bag} (h : mapIs w (some m) L) (hr : Rising L) (s : ByteArray) (c : Int) (hs : s.size ≤ 9223372036854775807) (hl : L.length ≤ 1048576) (c0 : 0 ≤ c) (c1 : c ≤ 9223372036854775807) :
    ∃ w', (Instr.mapUpdate 60 (.map (some m)) (.string s) (.int .i64 c)).run Try.prog w = .ok () w' ∧ mapIs w' (some m) (putW s c L) ∧ w.grownBy w' (some m) := by
  have hkey := Go.WideMaps.keyOf_string_mk (P := Try.prog) Try.underlying9 (s := s) (by unfold maxLen; exact hs)
  obtain ⟨w', hrun, hown, hg⟩ := World.ownsMap.update h law9 Try.underlying60 (by unfold maxLen; omega) hkey (plainElem_int (H := Unit) Try.underlying3 (a := c) (WalkArith.wf_i64 (by omega)))
  rw [put_bagD hr] at hown
  exact ⟨w', hrun, tight hown, hg⟩
theorem new_any (w : World) : Calls Try.prog 25 #[] w fun e w' => e = .returned (.pointer (some ⟨w.heap.size, 0, none⟩)) ∧ w' = w.alloc (.cells #[.map none] 62) := by
  go_enter Try.func25, Try.ntmps25
  go_wp2
  go_ret
  exact ⟨rfl, rfl⟩
theorem new_cnt (w : World) : Cnt (w.alloc (.cells #[.map none] 62)) w.heap.size none [] := ⟨heap_alloc_new w _, sound_nil, rfl⟩
theorem cadd_nil (s : ByteArray) (n : Int) (w : World) : Calls Try.prog 31 #[.pointer none, .string s, .int .i64 n] w fun e w' => e = .returned (.int .i64 1) ∧ w' = w := by
  go_enter Try.func31, Try.ntmps31
  go_wp2
  go_ret
  exact ⟨rfl, rfl⟩
theorem Cnt.drew {w : World} {K : Nat} {b : Option Nat} {L : Bag} (h : Cnt w K b L) : Cnt w.drew K b L := h.kept fun _ _ _ => rfl
end Go.Proofs.Ytikaclfcajnddaa
