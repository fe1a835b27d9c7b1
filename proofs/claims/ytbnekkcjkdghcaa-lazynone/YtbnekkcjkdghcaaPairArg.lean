/- A pair as an argument. -/
import Derived.Test.YtbnekkcjkdghcaaMapP
import Derived.Lib.SmallJoins
namespace Go.Proofs.Ytbnekkcjkdghcaa
open Go.ChangeShapes Go.WideShapes Go.RowKit Go.Maps

set_option maxRecDepth 100000 in
theorem open_pair {H : Type} {enc : TypeId × Value → H} {W : World} {base : Nat} {v : Value} {d : DataW H} {p : List MemPlace} (ov : Value.okWide Try.prog W .any base 41 v)
    (h : DataW.Trod enc Try.prog W 0 (fun _ => true) true 41 v d p) : ∃ a b : Int, v = .agg #[.int .i64 a, .int .i64 b] ∧ FitsPr (a, b) := by
  obtain ⟨v0, v1, y0, y1, n, rfl, _, _, t0, t1⟩ := Joins.open_agg2 Try.underlying41 (by kernel_rfl) Try.cells32 ov h
  obtain ⟨a, e0, _, ha⟩ := DataW.trod_int Try.underlying3 t0
  obtain ⟨b, e1, _, hb⟩ := DataW.trod_int Try.underlying3 t1
  simp only [List.cons.injEq, and_true] at e0 e1
  exact ⟨a, b, by rw [e0, e1], bounds_i64 ha, bounds_i64 hb⟩
end Go.Proofs.Ytbnekkcjkdghcaa
