/- Pairs and items, compared by a table's texts. -/
import Derived.Test.YtbnekkcjkdghcaaGrown
namespace Go.Proofs.Ytbnekkcjkdghcaa
open Go.RowKit Go.Maps Go.Shelf
open Go.Sort (grow grow_empty grow_grow alloc_eq_grow heap_grow_old)

/-! Pairs by their texts. -/
def FitsN (a : Int) : Prop := -9223372036854775808 ≤ a ∧ a ≤ 9223372036854775807
def tcmp (J : List Joint) (a b : Int) : Int := Lib.compareBytes (bs (txtOf J a)) (bs (txtOf J b))
def pcmp (J : List Joint) (a b : Int × Int) : Int := if tcmp J a.1 b.1 = 0 then tcmp J a.2 b.2 else tcmp J a.1 b.1
set_option maxRecDepth 100000 in
theorem pcmp_same {J : List Joint} {p q r s : Int} (h : tcmp J p r = 0) : pcmp J (p, q) (r, s) = tcmp J q s := if_pos h
set_option maxRecDepth 100000 in
theorem pcmp_other {J : List Joint} {p q r s : Int} (h : ¬ tcmp J p r = 0) : pcmp J (p, q) (r, s) = tcmp J p r := if_neg h
set_option maxRecDepth 100000 in
/-- What is called in a comparison, in any world that has grown. -/
theorem ptextG {K : Nat} {v : Value} {b : Option Nat} {J : List Joint} {wb : World} (h : Stab wb K v b J) (hJ : J.length ≤ 1000000) (id : Int) (hi : FitsN id) (n : Nat) (os : Array Obj) :
    Calls Try.prog 59 #[.pointer (some ⟨K, 0, none⟩), .int .i64 id] (grow (wb.drewN n) os) fun e w'' => e = .returned (.string (txtOf J id)) ∧ ∃ p : GrownBy, w'' = grow (wb.drewN p.n) p.os :=
  Calls.grown_of (ptext_any K v b J id (grow (wb.drewN n) os) (h.grown (Grown.of _ n os)) hJ hi.1 hi.2)
set_option maxRecDepth 100000 in
theorem compareG (J : List Joint) (a b : Int) (wb : World) (n : Nat) (os : Array Obj) :
    Calls Try.prog 58 #[.string (txtOf J a), .string (txtOf J b)] (grow (wb.drewN n) os) fun e w'' => e = .returned (.int .i64 (tcmp J a b)) ∧ ∃ p : GrownBy, w'' = grow (wb.drewN p.n) p.os :=
  (tcompare_any _ _ _).mono fun _ _ h => ⟨h.1, ⟨n, os⟩, h.2⟩
set_option maxRecDepth 100000 in
set_option maxHeartbeats 2000000 in
theorem compareTexts_any (K : Nat) (v : Value) (b : Option Nat) (J : List Joint) (p q r s : Int) (w : World) (h : Stab w K v b J) (hJ : J.length ≤ 1000000) (hp : FitsN p) (hq : FitsN q) (hr : FitsN r) (hs : FitsN s) :
    Calls Try.prog 48 #[.pointer (some ⟨K, 0, none⟩), .agg #[.int .i64 p, .int .i64 q], .agg #[.int .i64 r, .int .i64 s]] w fun e w' => e = .returned (.int .i64 (pcmp J (p, q) (r, s))) ∧ Grown w w' := by
  have mixed : Try.prog.follows .mixedOrders = true := by kernel_rfl
  obtain ⟨wb, hwb⟩ : ∃ wb, wb = (w.alloc (.cells #[.int .i64 p, .int .i64 q] 41)).alloc (.cells #[.int .i64 r, .int .i64 s] 41) := ⟨_, rfl⟩
  have HGB : Hid (Grown w wb) := Lib.hid (by rw [hwb]; exact ((Grown.refl w).alloc _).alloc _)
  have hB := h.grown HGB.out
  have hsz : wb.heap.size = w.heap.size + 2 := by rw [hwb, World.size_alloc, World.size_alloc]
  have x0 : wb.cell? ⟨w.heap.size, 0, none⟩ = some (.int .i64 p) := by rw [hwb]; simp
  have x1 : wb.cell? ⟨w.heap.size, 1, none⟩ = some (.int .i64 q) := by rw [hwb]; simp
  have y0 : wb.cell? ⟨w.heap.size + 1, 0, none⟩ = some (.int .i64 r) := by rw [hwb]; simp
  have y1 : wb.cell? ⟨w.heap.size + 1, 1, none⟩ = some (.int .i64 s) := by rw [hwb]; simp
  have z0 := fun n os => cell_grown (by show w.heap.size < _; omega) x0 n os
  have z1 := fun n os => cell_grown (by show w.heap.size + 1 < _; omega) y0 n os
  have HX : Hid (∀ n os, (grow (wb.drewN n) os).cell? ⟨w.heap.size, 1, none⟩ = some (.int .i64 q) ∧ (grow (wb.drewN n) os).cell? ⟨w.heap.size + 1, 1, none⟩ = some (.int .i64 s)) := Lib.hid fun n os => ⟨cell_grown (by show w.heap.size < _; omega) x1 n os, cell_grown (by show w.heap.size + 1 < _; omega) y1 n os⟩
  have HB := Lib.hid hB
  clear h hB x0 x1 y0 y1 hsz
  by_cases hc : tcmp J p r = 0
  · rw [pcmp_same hc]
    have HC := Lib.hid hc
    clear hc
    go_enter Try.func48, Try.ntmps48
    go_wp2_with fail
    rw [← hwb]
    clear hwb
    go_quiet_grown (first | (go_at_call 59; refine ptextG HB.out hJ _ (by assumption) _ _) | (go_at_call 58; refine compareG J p r wb _ _))
    rw [HC.out]
    obtain ⟨w2, hw2⟩ : ∃ w2, w2 = grow (wb.drewN nq) osq := ⟨_, rfl⟩
    have HG2 : Hid (Grown w w2) := Lib.hid (by rw [hw2]; exact HGB.out.trans (Grown.of _ _ _))
    have HB2 : Hid (Stab w2 K v b J) := Lib.hid (by rw [hw2]; exact HB.out.grown (Grown.of _ _ _))
    have u0 : ∀ n os, (grow (w2.drewN n) os).cell? ⟨w.heap.size, 1, none⟩ = some (.int .i64 q) := fun n os => by
      obtain ⟨n2, os2, e⟩ := (show Grown wb (grow (w2.drewN n) os) from by rw [hw2]; exact (Grown.of _ _ _).trans (Grown.of _ _ _))
      rw [e]; exact (HX.out n2 os2).1
    have u1 : ∀ n os, (grow (w2.drewN n) os).cell? ⟨w.heap.size + 1, 1, none⟩ = some (.int .i64 s) := fun n os => by
      obtain ⟨n2, os2, e⟩ := (show Grown wb (grow (w2.drewN n) os) from by rw [hw2]; exact (Grown.of _ _ _).trans (Grown.of _ _ _))
      rw [e]; exact (HX.out n2 os2).2
    rw [← hw2]
    clear hw2 z0 z1
    go_wp2_with fail
    go_quiet_grown (first | (go_at_call 59; refine ptextG HB2.out hJ _ (by assumption) _ _) | (go_at_call 58; refine compareG J q s w2 _ _))
    go_wp2
    go_ret
    exact ⟨rfl, HG2.out.trans (Grown.of _ _ _)⟩
  · rw [pcmp_other hc]
    go_enter Try.func48, Try.ntmps48
    go_wp2_with fail
    rw [← hwb]
    clear hwb
    go_quiet_grown (first | (go_at_call 59; refine ptextG HB.out hJ _ (by assumption) _ _) | (go_at_call 58; refine compareG J p r wb _ _))
    go_wp2
    go_ret
    exact ⟨rfl, HGB.out.trans (Grown.of _ _ _)⟩
end Go.Proofs.Ytbnekkcjkdghcaa
