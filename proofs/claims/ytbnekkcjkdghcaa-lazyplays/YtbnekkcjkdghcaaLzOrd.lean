/- The order of a queue's entries: a function that reads a table. -/
import Derived.Test.YtbnekkcjkdghcaaEHeapC
import Derived.Test.YtbnekkcjkdghcaaOrI
namespace Go.Proofs.Ytbnekkcjkdghcaa
open Go.RowKit Go.Maps Go.Shelf
open Go.Sort (grow grow_empty grow_grow alloc_eq_grow heap_grow_old)

set_option maxRecDepth 100000 in
theorem item_neq_yes {p q n r s m : Int} (h : ¬ (p, q, n) = (r, s, m)) (w : World) : (binOp .neq 48 (.agg #[.int .i64 p, .int .i64 q, .int .i64 n]) (.agg #[.int .i64 r, .int .i64 s, .int .i64 m])).run Try.prog w = .ok (.bool true) w := by
  have u48 := Try.underlying48
  have u41 := Try.underlying41
  have u3 := Try.underlying3
  by_cases e : p = r
  · subst e
    by_cases e2 : q = s
    · subst e2
      have e3 : ¬ n = m := fun k => h (by rw [k])
      simp [go_sem, u48, u41, u3, e3]
    · simp [go_sem, u48, u41, u3, e2]
  · simp [go_sem, u48, u41, u3, e]
set_option maxRecDepth 100000 in
theorem item_neq_no (p q n : Int) (w : World) : (binOp .neq 48 (.agg #[.int .i64 p, .int .i64 q, .int .i64 n]) (.agg #[.int .i64 p, .int .i64 q, .int .i64 n])).run Try.prog w = .ok (.bool false) w := by
  have u48 := Try.underlying48
  have u41 := Try.underlying41
  have u3 := Try.underlying3
  simp [go_sem, u48, u41, u3]
set_option maxRecDepth 100000 in
theorem ccmp_self (a : Int) : ccmpI a a = 0 := by unfold ccmpI; simp
abbrev ordV (c : Nat) : Value := fnV 38 #[.pointer (some ⟨c, 0, none⟩)]
set_option maxRecDepth 100000 in
theorem order_any (K : Nat) (w : World) : Calls Try.prog 26 #[.pointer (some ⟨K, 0, none⟩)] w fun e w' => e = .returned (ordV w.heap.size) ∧ w' = w.alloc (.cells #[.pointer (some ⟨K, 0, none⟩)] 26) := by
  go_enter Try.func26, Try.ntmps26
  go_wp2
  go_ret
  exact ⟨rfl, rfl⟩
set_option maxRecDepth 100000 in
set_option maxHeartbeats 4000000 in
theorem ordc_any (K : Nat) (v : Value) (b : Option Nat) (J : List Joint) (c : Nat) (x y : Ent) (w : World) (h : Env w K v b J c) (hx : FitsE x) (hy : FitsE y) :
    Calls Try.prog 38 #[entV x, entV y, .pointer (some ⟨c, 0, none⟩)] w fun e w' => e = .returned (.bool (entBetter J x y)) ∧ Grown w w' := by
  have hx1 := fits_form hx
  have hy1 := fits_form hy
  have fx := hx.2
  have fy := hy.2
  obtain ⟨⟨p, q, n⟩, ep⟩ : ∃ i, itemOf x = i := ⟨_, rfl⟩
  obtain ⟨⟨r, s, m⟩, er⟩ : ∃ i, itemOf y = i := ⟨_, rfl⟩
  rw [ep] at hx1 fx
  rw [er] at hy1 fy
  subst hx1
  subst hy1
  rw [entBetter_ent]
  unfold entV entOf
  simp only
  obtain ⟨wb, hwb⟩ : ∃ wb, (w.alloc (.cells #[.int .i64 p, .int .i64 q, .int .i64 n, .int .i64 p, .int .i64 q, .int .i64 n] 61)).alloc (.cells #[.int .i64 r, .int .i64 s, .int .i64 m, .int .i64 r, .int .i64 s, .int .i64 m] 61) = wb := ⟨_, rfl⟩
  have HGB : Hid (Grown w wb) := Lib.hid (by rw [← hwb]; exact ((Grown.refl w).alloc _).alloc _)
  have hB := h.grown HGB.out
  have cb := hB.cell
  have u0 : wb.cell? ⟨w.heap.size, 0, none⟩ = some (.int .i64 p) := by rw [← hwb]; simp
  have u1 : wb.cell? ⟨w.heap.size, 1, none⟩ = some (.int .i64 q) := by rw [← hwb]; simp
  have u2 : wb.cell? ⟨w.heap.size, 2, none⟩ = some (.int .i64 n) := by rw [← hwb]; simp
  have u3 : wb.cell? ⟨w.heap.size, 3, none⟩ = some (.int .i64 p) := by rw [← hwb]; simp
  have u4 : wb.cell? ⟨w.heap.size, 4, none⟩ = some (.int .i64 q) := by rw [← hwb]; simp
  have u5 : wb.cell? ⟨w.heap.size, 5, none⟩ = some (.int .i64 n) := by rw [← hwb]; simp
  have v0 : wb.cell? ⟨w.heap.size + 1, 0, none⟩ = some (.int .i64 r) := by rw [← hwb]; simp
  have v1 : wb.cell? ⟨w.heap.size + 1, 1, none⟩ = some (.int .i64 s) := by rw [← hwb]; simp
  have v2 : wb.cell? ⟨w.heap.size + 1, 2, none⟩ = some (.int .i64 m) := by rw [← hwb]; simp
  have v3 : wb.cell? ⟨w.heap.size + 1, 3, none⟩ = some (.int .i64 r) := by rw [← hwb]; simp
  have v4 : wb.cell? ⟨w.heap.size + 1, 4, none⟩ = some (.int .i64 s) := by rw [← hwb]; simp
  have v5 : wb.cell? ⟨w.heap.size + 1, 5, none⟩ = some (.int .i64 m) := by rw [← hwb]; simp
  by_cases he : (p, q, n) = (r, s, m)
  · have e1 : p = r := congrArg (·.1) he
    have e2 : q = s := congrArg (·.2.1) he
    have e3 : n = m := congrArg (·.2.2) he
    subst e1 e2 e3
    rw [better_irrefl]
    have hno := item_neq_no p q n
    have HC : Hid (∀ W, Grown wb W → W.cell? ⟨w.heap.size, 0, none⟩ = some (.int .i64 p) ∧ W.cell? ⟨w.heap.size, 1, none⟩ = some (.int .i64 q) ∧ W.cell? ⟨w.heap.size + 1, 0, none⟩ = some (.int .i64 p) ∧ W.cell? ⟨w.heap.size + 1, 1, none⟩ = some (.int .i64 q)) := Lib.hid fun W h => ⟨h.cell u0, h.cell u1, h.cell v0, h.cell v1⟩
    clear h hB cb ep er fx fy hx hy he
    go_enter Try.func38, Try.ntmps38
    go_wp2_with fail
    go_region_held3 (fun w' => w'.cell? ⟨w.heap.size, 0, none⟩ = some (.int .i64 p) ∧ w'.cell? ⟨w.heap.size, 1, none⟩ = some (.int .i64 q) ∧ w'.cell? ⟨w.heap.size + 1, 0, none⟩ = some (.int .i64 p) ∧ w'.cell? ⟨w.heap.size + 1, 1, none⟩ = some (.int .i64 q)) (first | exact ⟨u0, u1, v0, v1⟩ | with_reducible exact HC.out _ ((Grown.refl wb).alloc _).drew | with_reducible exact HC.out _ ((Grown.refl wb).drew.alloc _) | with_reducible exact HC.out _ ((Grown.refl wb).alloc _)) (first
      | (go_at_call 40
         refine (ccmpI_any _ _ _).mono ?_
         rintro e w5 ⟨rfl, rfl⟩
         rw [ccmp_self])
      | (go_at_call 39
         refine (or_any 0 0 _ _ (by simp) (by simp)).mono ?_
         rintro e w6 ⟨rfl, rfl⟩))
    all_goals go_wp2
    all_goals go_ret
    all_goals exact ⟨rfl, HGB.out.trans (((Grown.refl wb).drew.alloc _))⟩
  · have hyes := item_neq_yes he
    have cB := better_any K v b J (p, q, n) (r, s, m) wb hB.tab hB.few fx fy
    unfold itemV at cB
    simp only at cB
    generalize betterOf J (p, q, n) (r, s, m) = z at *
    clear h hB ep er fx fy hx hy he
    go_enter Try.func38, Try.ntmps38
    go_wp2_with fail
    refine cB.mono ?_
    rintro e w1 ⟨rfl, hg⟩
    have HG := Lib.hid hg
    clear hg
    go_wp2
    go_ret
    exact ⟨rfl, HGB.out.trans HG.out⟩
end Go.Proofs.Ytbnekkcjkdghcaa
