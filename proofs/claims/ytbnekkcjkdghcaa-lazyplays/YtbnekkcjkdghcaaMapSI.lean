/- A map of texts to numbers. -/
import Derived.Test.YtbnekkcjkdghcaaBag
import Derived.Maps.RangeWalk
import Derived.Maps.OwnOps
import Derived.Maps.OwnSet
namespace Go.Proofs.Ytbnekkcjkdghcaa
open Go.RowKit Go.Maps

set_option maxRecDepth 100000 in
theorem law9 : Keyed Try.prog 9 := string_keyed Try.underlying9
set_option maxRecDepth 100000 in
theorem zero3 (w : World) : (zeroValue 3).run Try.prog w = .ok (.int .i64 0) w := by kernel_rfl
/-- Block m, if any, is a map of the words L. -/
def mapIs (w : World) (b : Option Nat) (L : Bag) : Prop :=
  match b with
  | none => L = []
  | some m => w.ownsMap Try.prog 9 (plainElem Try.prog 3) m L.length (bagD L)
set_option maxRecDepth 100000 in
theorem mapIs.kept {w w' : World} {b : Option Nat} {L : Bag} (h : mapIs w b L) (hk : ∀ m, b = some m → w'.heap[m]? = w.heap[m]?) : mapIs w' b L := by
  cases b with
  | none => exact h
  | some m =>
    obtain ⟨es, clock, hb, rest⟩ := h
    exact ⟨es, clock, (hk m rfl).trans hb, rest⟩
set_option maxRecDepth 100000 in
theorem mapIs.lt {w : World} {m : Nat} {L : Bag} (h : mapIs w (some m) L) : m < w.heap.size := World.ownsMap.lt h
set_option maxRecDepth 100000 in
theorem mapIs.block {w : World} {m : Nat} {L : Bag} (h : mapIs w (some m) L) : ∃ es clock, w.heap[m]? = some (.map es clock) := by
  obtain ⟨es, clock, hb, _⟩ := h
  exact ⟨es, clock, hb⟩
set_option maxRecDepth 100000 in
theorem tight {w : World} {m n : Nat} {L : Bag} (h : w.ownsMap Try.prog 9 (plainElem Try.prog 3) m n (bagD L)) : w.ownsMap Try.prog 9 (plainElem Try.prog 3) m L.length (bagD L) := by
  obtain ⟨es, clock, hb, F, hs, hD⟩ := h
  refine ⟨es, clock, hb, F, ?_, hD⟩
  have e : ents L = (es.toList.map (WideElems.rg Try.prog 9 (plainElem Try.prog 3))).foldr DataW.insert [] := by
    unfold bagD at hD
    injection hD
  have := congrArg List.length e
  rw [length_sorted] at this
  simp [ents] at this
  omega
set_option maxRecDepth 100000 in
theorem has_any (L : Bag) (s : ByteArray) : Maps.has (bagD L) (.string (bs s)) = L.any (fun p => p.1 = s) := by
  unfold bagD
  rw [Maps.has_eq]
  unfold ents
  rw [List.any_map]
  congr 1
  funext p
  simp only [Function.comp, Lit.sameKey]
  by_cases e : p.1 = s
  · simp [e]
  · simp only [e, decide_false]
    exact beq_eq_false_iff_ne.2 fun k => e (bs_inj k)
set_option maxRecDepth 100000 in
theorem look_run {w : World} {b : Option Nat} {L : Bag} (h : mapIs w b L) (s : ByteArray) (hs : s.size ≤ 9223372036854775807) : (Instr.lookup 68 (.map b) (.string s) false).run Try.prog w = .ok (.int .i64 (countOf L s)) w := by
  have hkey := Go.WideMaps.keyOf_string_mk (P := Try.prog) Try.underlying9 (s := s) (by unfold maxLen; exact hs)
  cases b with
  | none =>
    have e : L = [] := h
    subst e
    exact look_nil false law9 Try.underlying68 (zero3 w) hkey
  | some m =>
    obtain ⟨c, hrun, hat, _⟩ := World.ownsMap.lookup_int h law9 Try.underlying68 Try.underlying3 (zero3 w) hkey
    rw [atKey_count] at hat
    simp only [DataW.lit.injEq, Lit.int.injEq, true_and] at hat
    rw [hrun, hat]
set_option maxRecDepth 100000 in
theorem len_run {w : World} {b : Option Nat} {L : Bag} (h : mapIs w b L) (ty : TypeId) : (Builtin.len_ #[68] ty #[.map b]).run Try.prog w = .ok (.int .i64 (L.length : Int)) w := by
  cases b with
  | none =>
    have e : L = [] := h
    subst e
    exact len_nil Try.underlying68 ty
  | some m =>
    rw [World.ownsMap.len h Try.underlying68 ty, size_bagD]
set_option maxRecDepth 100000 in
/-- 'v, ok := m[s]'. -/
theorem look2_run {w : World} {b : Option Nat} {L : Bag} (h : mapIs w b L) (s : ByteArray) (hs : s.size ≤ 9223372036854775807) : (Instr.lookup 68 (.map b) (.string s) true).run Try.prog w = .ok (.tuple #[.int .i64 (countOf L s), .bool (L.any (fun p => p.1 = s))]) w := by
  have hkey := Go.WideMaps.keyOf_string_mk (P := Try.prog) Try.underlying9 (s := s) (by unfold maxLen; exact hs)
  cases b with
  | none =>
    have e : L = [] := h
    subst e
    exact look_nil true law9 Try.underlying68 (zero3 w) hkey
  | some m =>
    obtain ⟨v, ps, hrun, hv⟩ := World.ownsMap.look_ok h law9 Try.underlying68 (zero3 w) (plainElem_int (H := Unit) Try.underlying3 (a := 0) (by decide)) hkey
    obtain ⟨c, rfl, hz, _⟩ := plainElem_int_inv Try.underlying3 hv
    have hat : (bagD L).atKey (.string (bs s)) (.lit (.int .i64 0)) = .lit (.int .i64 c) := congrArg Prod.fst hz
    rw [atKey_count] at hat
    simp only [DataW.lit.injEq, Lit.int.injEq, true_and] at hat
    rw [hrun, hat]
    congr 3
    rw [← has_any]
set_option maxRecDepth 100000 in
theorem put_run {w : World} {m : Nat} {L : Bag} (h : mapIs w (some m) L) (hr : Rising L) (s : ByteArray) (c : Int) (hs : s.size ≤ 9223372036854775807) (hl : L.length ≤ 1048576) (c0 : 0 ≤ c) (c1 : c ≤ 9223372036854775807) :
    ∃ w', (Instr.mapUpdate 68 (.map (some m)) (.string s) (.int .i64 c)).run Try.prog w = .ok () w' ∧ mapIs w' (some m) (putW s c L) ∧ w.grownBy w' (some m) := by
  have hkey := Go.WideMaps.keyOf_string_mk (P := Try.prog) Try.underlying9 (s := s) (by unfold maxLen; exact hs)
  obtain ⟨w', hrun, hown, hg⟩ := World.ownsMap.update h law9 Try.underlying68 (by unfold maxLen; omega) hkey (plainElem_int (H := Unit) Try.underlying3 (a := c) (WalkArith.wf_i64 (by omega)))
  rw [put_bagD hr] at hown
  exact ⟨w', hrun, tight hown, hg⟩
set_option maxRecDepth 100000 in
theorem eqMap_none (w : World) : (binOp .eql 68 (.map none) (.map none)).run Try.prog w = .ok (.bool true) w := by kernel_rfl
set_option maxRecDepth 100000 in
theorem eqMap_some (m : Nat) (w : World) : (binOp .eql 68 (.map (some m)) (.map none)).run Try.prog w = .ok (.bool false) w := by kernel_rfl
end Go.Proofs.Ytbnekkcjkdghcaa
