/- Nil queues; a new queue's first Put of any pair. -/
import Derived.Test.YtbnekkcjkdghcaaLnP
namespace Go.Proofs.Ytbnekkcjkdghcaa
open Go.RowKit Go.Maps Go.Shelf
open Go.Sort (grow grow_empty grow_grow alloc_eq_grow heap_grow_old)
variable {w w' : World} {K H m : Nat}

set_option maxRecDepth 100000 in
theorem lput_nil (a b n : Int) (w : World) : Calls Try.prog 10 #[.pointer none, .agg #[.int .i64 a, .int .i64 b], .int .i64 n] w fun e w' => e = .returned (.tuple #[]) ∧ Grown w w' := by
  have HG := Lib.hid ((Grown.refl w).alloc (.cells #[.int .i64 a, .int .i64 b] 41))
  go_enter Try.func10, Try.ntmps10
  go_wp2
  refine bodyPost_ret (results_none rfl _ _ _) rfl ?_
  exact ⟨rfl, HG.out⟩
set_option maxRecDepth 100000 in
theorem lstats_nil (w : World) : Calls Try.prog 19 #[.pointer none] w fun e w' => e = .returned (statsV 0 0 0 0) ∧ Grown w w' := by
  have HG := Lib.hid ((Grown.refl w).alloc (.cells #[.int .i64 0, .int .i64 0, .int .i64 0, .int .i64 0, .int .i64 0, .int .i64 0] 36))
  go_enter Try.func19, Try.ntmps19
  go_wp2
  refine bodyPost_ret (v := statsV 0 0 0 0) (by rw [results_cell1z rfl]; simp [go_sem, statsV]) rfl ?_
  exact ⟨rfl, HG.out⟩
set_option maxRecDepth 100000 in
theorem lpop_nil (f : Value) (w : World) : Calls Try.prog 14 #[.pointer none, f] w fun e w' => e = .returned (popV .none) ∧ Grown w w' := by
  have HG := Lib.hid ((Grown.refl w).alloc (.cells #[.int .i64 0, .int .i64 0, .int .i64 0] 48))
  go_enter Try.func14, Try.ntmps14
  go_wp2
  refine bodyPost_ret (v := popV .none) (by rw [results_cell_tmp rfl]; simp [go_sem, popV, itemV]) rfl ?_
  exact ⟨rfl, HG.out⟩
set_option maxRecDepth 100000 in
theorem lpop_nolive (K : Nat) (w : World) : Calls Try.prog 14 #[.pointer (some ⟨K, 0, none⟩), .nilFunc] w fun e w' => e = .returned (popV .none) ∧ Grown w w' := by
  have HG := Lib.hid ((Grown.refl w).alloc (.cells #[.int .i64 0, .int .i64 0, .int .i64 0] 48))
  have hno := Try.noLive
  go_enter Try.func14, Try.ntmps14
  go_wp2
  refine bodyPost_ret (v := popV .none) (by rw [results_cell_tmp rfl]; simp [go_sem, popV, itemV]) rfl ?_
  exact ⟨rfl, HG.out⟩
/-- Queue K has n entries, and knows n pairs: what Len and Known read. -/
structure LzC (w : World) (K : Nat) (n : Nat) : Prop where
  ex : ∃ H m a cap M, w.cell? ⟨K, 1, none⟩ = some (.pointer (some ⟨H, 0, none⟩)) ∧ w.cell? ⟨K, 2, none⟩ = some (.map (some m)) ∧ w.cell? ⟨H, 1, none⟩ = some (.slice a n cap) ∧ CMap w m M ∧ M.length = n
set_option maxRecDepth 100000 in
theorem LzC.grown {n : Nat} (h : LzC w K n) (g : Grown w w') : LzC w' K n := by
  obtain ⟨H, m, a, cap, M, h1, h2, h3, h4, h5⟩ := h.ex
  exact ⟨H, m, a, cap, M, g.cell h1, g.cell h2, g.cell h3, h4.kept (g.below.block m h4.lt), h5⟩
set_option maxRecDepth 100000 in
theorem clen_any {n : Nat} (h : LzC w K n) : Calls Try.prog 17 #[.pointer (some ⟨K, 0, none⟩)] w fun e w' => e = .returned (.int .i64 (n : Int)) ∧ w' = w := by
  obtain ⟨H, m, a, cap, M, h1, h2, h3, h4, h5⟩ := h.ex
  have cL : Calls Try.prog 36 #[.pointer (some ⟨H, 0, none⟩)] w fun e w' => e = .returned (.int .i64 (n : Int)) ∧ w' = w := by
    clear h h1 h2 h4 h5
    go_enter Try.func36, Try.ntmps36
    go_wp2
    go_ret
    exact ⟨rfl, rfl⟩
  clear h h2 h3 h4 h5
  go_enter Try.func17, Try.ntmps17
  go_wp2_with fail
  refine cL.mono ?_
  rintro e w1 ⟨rfl, rfl⟩
  go_wp2
  go_ret
  exact ⟨rfl, rfl⟩
set_option maxRecDepth 100000 in
theorem cknown_any {n : Nat} (h : LzC w K n) : Calls Try.prog 18 #[.pointer (some ⟨K, 0, none⟩)] w fun e w' => e = .returned (.int .i64 (n : Int)) ∧ w' = w := by
  obtain ⟨H, m, a, cap, M, h1, h2, h3, h4, h5⟩ := h.ex
  have hl := fun ty => len_c (m := some m) (w := w) (L := M) h4 ty
  rw [h5] at hl
  clear h h1 h3 h4 h5
  go_enter Try.func18, Try.ntmps18
  go_wp2
  go_ret
  exact ⟨rfl, rfl⟩
end Go.Proofs.Ytbnekkcjkdghcaa
