/- Params of layer 8, and the document's; a struct of three numbers as an argument. -/
import Derived.Test.YtikaclfcajnddaaMem
import Derived.Lib.SmallJoins
namespace Go.Proofs.Ytikaclfcajnddaa
open Go.ChangeShapes Go.WideShapes Go.RowKit

/-- Are these parameters? An error's number. -/
def paramsOf (b m l : Int) : Int := if b < 0 ∨ 1048576 < b ∨ m < 1 ∨ l < 1 ∨ 65536 < l then 2 else 0
theorem params_no {b m l : Int} (h : b < 0 ∨ 1048576 < b ∨ m < 1 ∨ l < 1 ∨ 65536 < l) : paramsOf b m l = 2 := if_pos h
theorem params_yes {b m l : Int} (h : ¬ (b < 0 ∨ 1048576 < b ∨ m < 1 ∨ l < 1 ∨ 65536 < l)) : paramsOf b m l = 0 := if_neg h
theorem Try.cells40 : Try.prog.cellsOf 40 = 3 := by kernel_rfl
theorem open_params {H : Type} {enc : TypeId × Value → H} {W : World} {base : Nat} {v : Value} {d : DataW H} {p : List MemPlace} (ov : Value.okWide Try.prog W .any base 40 v)
    (h : DataW.Trod enc Try.prog W 0 (fun _ => true) true 40 v d p) : ∃ b m l : Int, v = .agg #[.int .i64 b, .int .i64 m, .int .i64 l] := by
  obtain ⟨v0, v1, v2, y0, y1, y2, n, rfl, _, _, t0, t1, t2⟩ := Joins.open_agg3 Try.underlying40 (by kernel_rfl) Try.cells40 ov h
  obtain ⟨b, e0, _, _⟩ := DataW.trod_int Try.underlying3 t0
  obtain ⟨m, e1, _, _⟩ := DataW.trod_int Try.underlying3 t1
  obtain ⟨l, e2, _, _⟩ := DataW.trod_int Try.underlying3 t2
  simp only [List.cons.injEq, and_true] at e0 e1 e2
  exact ⟨b, m, l, by rw [e0, e1, e2]⟩
set_option maxHeartbeats 1000000 in
theorem params_any (b m l : Int) (w : World) : Calls Try.prog 14 #[.agg #[.int .i64 b, .int .i64 m, .int .i64 l]] w fun e w' => e = .returned (.int .i64 (paramsOf b m l)) ∧ Below w.heap.size w w' := by
  by_cases h1 : b < 0
  · rw [params_no (by omega)]
    go_enter Try.func14, Try.ntmps14
    go_wp2
    go_ret
    exact ⟨rfl, (Below.refl _ w).alloc (Nat.le_refl _) _⟩
  by_cases h2 : 1048576 < b
  · rw [params_no (by omega)]
    go_enter Try.func14, Try.ntmps14
    go_wp2
    go_ret
    exact ⟨rfl, (Below.refl _ w).alloc (Nat.le_refl _) _⟩
  by_cases h3 : m < 1
  · rw [params_no (by omega)]
    go_enter Try.func14, Try.ntmps14
    go_wp2
    go_ret
    exact ⟨rfl, (Below.refl _ w).alloc (Nat.le_refl _) _⟩
  by_cases h4 : l < 1
  · rw [params_no (by omega)]
    go_enter Try.func14, Try.ntmps14
    go_wp2
    go_ret
    exact ⟨rfl, (Below.refl _ w).alloc (Nat.le_refl _) _⟩
  by_cases h5 : 65536 < l
  · rw [params_no (by omega)]
    go_enter Try.func14, Try.ntmps14
    go_wp2
    go_ret
    exact ⟨rfl, (Below.refl _ w).alloc (Nat.le_refl _) _⟩
  · rw [params_yes (by omega)]
    go_enter Try.func14, Try.ntmps14
    go_wp2
    go_ret
    exact ⟨rfl, (Below.refl _ w).alloc (Nat.le_refl _) _⟩
set_option maxHeartbeats 1000000 in
theorem refParams_any (b m l : Int) (w : World) : Calls Try.prog 15 #[.agg #[.int .i64 b, .int .i64 m, .int .i64 l]] w fun e w' => e = .returned (.int .i64 (paramsOf b m l)) ∧ Below w.heap.size w w' := by
  by_cases h1 : b < 0
  · rw [params_no (by omega)]
    go_enter Try.func15, Try.ntmps15
    go_wp2
    go_ret
    exact ⟨rfl, (Below.refl _ w).alloc (Nat.le_refl _) _⟩
  by_cases h2 : 1048576 < b
  · rw [params_no (by omega)]
    go_enter Try.func15, Try.ntmps15
    go_wp2
    go_ret
    exact ⟨rfl, (Below.refl _ w).alloc (Nat.le_refl _) _⟩
  by_cases h3 : m < 1
  · rw [params_no (by omega)]
    go_enter Try.func15, Try.ntmps15
    go_wp2
    go_ret
    exact ⟨rfl, (Below.refl _ w).alloc (Nat.le_refl _) _⟩
  by_cases h4 : l < 1
  · rw [params_no (by omega)]
    go_enter Try.func15, Try.ntmps15
    go_wp2
    go_ret
    exact ⟨rfl, (Below.refl _ w).alloc (Nat.le_refl _) _⟩
  by_cases h5 : 65536 < l
  · rw [params_no (by omega)]
    go_enter Try.func15, Try.ntmps15
    go_wp2
    go_ret
    exact ⟨rfl, (Below.refl _ w).alloc (Nat.le_refl _) _⟩
  · rw [params_yes (by omega)]
    go_enter Try.func15, Try.ntmps15
    go_wp2
    go_ret
    exact ⟨rfl, (Below.refl _ w).alloc (Nat.le_refl _) _⟩
end Go.Proofs.Ytikaclfcajnddaa
