/- Items: pairs with counts; which one is better. -/
import Derived.Test.YtbnekkcjkdghcaaCmp
import Derived.Deep.RegionHeld3
namespace Go.Proofs.Ytbnekkcjkdghcaa
open Go.RowKit Go.Maps Go.Shelf
open Go.Sort (grow grow_empty grow_grow alloc_eq_grow heap_grow_old)

abbrev Item := Int × Int × Int
def itemV (x : Item) : Value := .agg #[.int .i64 x.1, .int .i64 x.2.1, .int .i64 x.2.2]
def FitsI (x : Item) : Prop := FitsN x.1 ∧ FitsN x.2.1 ∧ FitsN x.2.2
/-- Below 0: x is better than y. -/
def icmp (J : List Joint) (x y : Item) : Int := if cmpI y.2.2 x.2.2 = 0 then pcmp J (x.1, x.2.1) (y.1, y.2.1) else cmpI y.2.2 x.2.2
set_option maxRecDepth 100000 in
theorem icmp_same {J : List Joint} {a b c p q r : Int} (h : cmpI r c = 0) : icmp J (a, b, c) (p, q, r) = pcmp J (a, b) (p, q) := if_pos h
set_option maxRecDepth 100000 in
theorem icmp_other {J : List Joint} {a b c p q r : Int} (h : ¬ cmpI r c = 0) : icmp J (a, b, c) (p, q, r) = cmpI r c := if_neg h
/-- A table, and the box that a function of items reads it from. -/
structure Env (w : World) (K : Nat) (v : Value) (b : Option Nat) (J : List Joint) (c : Nat) : Prop where
  tab : Stab w K v b J
  box : w.heap[c]? = some (.cells #[.pointer (some ⟨K, 0, none⟩)] 26 (0, 0))
  few : J.length ≤ 1000000
set_option maxRecDepth 100000 in
theorem Env.kept {w w' : World} {K c : Nat} {v : Value} {b : Option Nat} {J : List Joint} (h : Env w K v b J c) (hk : ∀ k, k < w.heap.size → mineT K v b k ∨ k = c → w'.heap[k]? = w.heap[k]?) : Env w' K v b J c :=
  ⟨h.tab.kept fun k h1 h2 => hk k h1 (.inl h2), (hk c (Array.getElem?_eq_some_iff.1 h.box).1 (.inr rfl)).trans h.box, h.few⟩
set_option maxRecDepth 100000 in
theorem Env.grown {w w' : World} {K c : Nat} {v : Value} {b : Option Nat} {J : List Joint} (h : Env w K v b J c) (k : Grown w w') : Env w' K v b J c := h.kept fun i hi _ => k.below.block i hi
set_option maxRecDepth 100000 in
theorem Env.cell {w : World} {K c : Nat} {v : Value} {b : Option Nat} {J : List Joint} (h : Env w K v b J c) : w.cell? ⟨c, 0, none⟩ = some (.pointer (some ⟨K, 0, none⟩)) := by
  rw [cell_of_row w c 0 _ 26 (0, 0) h.box]; rfl
set_option maxRecDepth 100000 in
set_option maxHeartbeats 2000000 in
theorem icmp_any (K : Nat) (v : Value) (b : Option Nat) (J : List Joint) (c : Nat) (x y : Item) (w : World) (h : Env w K v b J c) (hx : FitsI x) (hy : FitsI y) :
    Calls Try.prog 47 #[itemV x, itemV y, .pointer (some ⟨c, 0, none⟩)] w fun e w' => e = .returned (.int .i64 (icmp J x y)) ∧ Grown w w' := by
  obtain ⟨p, q, n⟩ := x
  obtain ⟨r, s, m⟩ := y
  obtain ⟨x1, x2, x3⟩ := hx
  obtain ⟨y1, y2, y3⟩ := hy
  simp only at x1 x2 x3 y1 y2 y3
  unfold itemV
  simp only
  obtain ⟨wb, hwb⟩ : ∃ wb, wb = (w.alloc (.cells #[.int .i64 p, .int .i64 q, .int .i64 n] 48)).alloc (.cells #[.int .i64 r, .int .i64 s, .int .i64 m] 48) := ⟨_, rfl⟩
  have HGB : Hid (Grown w wb) := Lib.hid (by rw [hwb]; exact ((Grown.refl w).alloc _).alloc _)
  have hB := h.grown HGB.out
  have cI := cmpI_any m n wb
  have cT := compareTexts_any K v b J p q r s wb hB.tab hB.few x1 x2 y1 y2
  have cb := hB.cell
  have u0 : wb.cell? ⟨w.heap.size, 0, none⟩ = some (.int .i64 p) := by rw [hwb]; simp
  have u1 : wb.cell? ⟨w.heap.size, 1, none⟩ = some (.int .i64 q) := by rw [hwb]; simp
  have u2 : wb.cell? ⟨w.heap.size, 2, none⟩ = some (.int .i64 n) := by rw [hwb]; simp
  have v0 : wb.cell? ⟨w.heap.size + 1, 0, none⟩ = some (.int .i64 r) := by rw [hwb]; simp
  have v1 : wb.cell? ⟨w.heap.size + 1, 1, none⟩ = some (.int .i64 s) := by rw [hwb]; simp
  have v2 : wb.cell? ⟨w.heap.size + 1, 2, none⟩ = some (.int .i64 m) := by rw [hwb]; simp
  have hw' := hwb.symm
  clear h hB hwb x1 x2 x3 y1 y2 y3
  by_cases hc : cmpI m n = 0
  · rw [icmp_same hc]
    rw [hc] at cI
    clear hc
    generalize pcmp J (p, q) (r, s) = z at *
    go_enter Try.func47, Try.ntmps47
    go_wp2_with fail
    refine cI.mono ?_
    rintro e w1 ⟨rfl, rfl⟩
    go_wp2_with fail
    refine cT.mono ?_
    rintro e w2 ⟨rfl, hg⟩
    have HG := Lib.hid hg
    clear hg
    go_wp2
    go_ret
    exact ⟨rfl, HGB.out.trans HG.out⟩
  · rw [icmp_other hc]
    generalize cmpI m n = z at *
    clear cT
    go_enter Try.func47, Try.ntmps47
    go_wp2_with fail
    refine cI.mono ?_
    rintro e w1 ⟨rfl, rfl⟩
    go_wp2
    go_ret
    exact ⟨rfl, HGB.out⟩
def closV (c : Nat) : Value := .func (.func 47) #[] #[.pointer (some ⟨c, 0, none⟩)]
set_option maxRecDepth 100000 in
theorem betterFirst_any (K : Nat) (w : World) : Calls Try.prog 37 #[.pointer (some ⟨K, 0, none⟩)] w fun e w' => e = .returned (closV w.heap.size) ∧ w' = w.alloc (.cells #[.pointer (some ⟨K, 0, none⟩)] 26) := by
  go_enter Try.func37, Try.ntmps37
  go_wp2
  go_ret
  exact ⟨rfl, rfl⟩
set_option maxRecDepth 100000 in
theorem env_new {w : World} {K : Nat} {v : Value} {b : Option Nat} {J : List Joint} (h : Stab w K v b J) (hJ : J.length ≤ 1000000) : Env (w.alloc (.cells #[.pointer (some ⟨K, 0, none⟩)] 26)) K v b J w.heap.size :=
  ⟨h.grown ((Grown.refl w).alloc _), heap_alloc_new w _, hJ⟩
/-- Is x better than y? -/
def betterOf (J : List Joint) (x y : Item) : Bool := decide (icmp J x y < 0)
def aheadOf (J : List Joint) (a b : Int × Int) : Bool := decide (pcmp J a b < 0)
end Go.Proofs.Ytbnekkcjkdghcaa
