/- The heap's calls: made, asked, pushed. -/
import Derived.Test.YtbnekkcjkdghcaaEHeapS
import Derived.Laws.ResultCell
namespace Go.Proofs.Ytbnekkcjkdghcaa
open Go.RowKit Go.Shelf
open Go.Sort (grow grow_empty grow_grow alloc_eq_grow heap_grow_old)
variable {w w' : World} {B K : Nat} {fv v : Value} {A : List Ent} {pu pk : Int} {bt : Ent → Ent → Bool} {E : World → Prop} {Bk : Nat → Prop}

/-- What is on top. -/
def topOf : List Ent → Ent × Bool
  | [] => ((0, 0, 0, 0, 0, 0), false)
  | a :: _ => (a, true)
def topV (x : Ent × Bool) : Value := .tuple #[entV x.1, .bool x.2]
set_option maxRecDepth 100000 in
theorem Try.isFn (g : Nat) (lb : Array Value) (w : World) : (binOp BinOp.eql 62 (Value.func (Fn.func g) #[] lb) Value.nilFunc).run Try.prog w = .ok (.bool false) w := by kernel_rfl
set_option maxRecDepth 100000 in
theorem Try.noFn (w : World) : (binOp BinOp.eql 62 Value.nilFunc Value.nilFunc).run Try.prog w = .ok (.bool true) w := by kernel_rfl
set_option maxRecDepth 100000 in
theorem hlen_any (h : Hp w B K fv v A pu pk) : Calls Try.prog 36 #[.pointer (some ⟨K, 0, none⟩)] w fun e w' => e = .returned (.int .i64 (A.length : Int)) ∧ w' = w := by
  obtain ⟨c0, c1, c2, c3⟩ := h.cells
  obtain ⟨a, cap, rfl, hc⟩ := h.row.form
  clear h
  go_enter Try.func36, Try.ntmps36
  go_wp2
  go_ret
  exact ⟨rfl, rfl⟩
set_option maxRecDepth 100000 in
theorem hlen_nil (w : World) : Calls Try.prog 36 #[.pointer none] w fun e w' => e = .returned (.int .i64 0) ∧ w' = w := by
  go_enter Try.func36, Try.ntmps36
  go_wp2
  go_ret
  exact ⟨rfl, rfl⟩
set_option maxRecDepth 100000 in
theorem hnew_any (g : Nat) (lb : Array Value) (w : World) : Calls Try.prog 25 #[fnV g lb] w fun e w' => e = .returned (.pointer (some ⟨w.heap.size, 0, none⟩)) ∧ w' = w.alloc (.cells #[fnV g lb, .slice none 0 0, .int .i64 0, .int .i64 0] 86) := by
  go_enter Try.func25, Try.ntmps25
  go_wp2
  go_ret
  exact ⟨rfl, rfl⟩
set_option maxRecDepth 100000 in
theorem hnew_none (w : World) : Calls Try.prog 25 #[.nilFunc] w fun e w' => e = .returned (.pointer (some ⟨w.heap.size, 0, none⟩)) ∧ w' = w.alloc (.cells #[.nilFunc, .slice none 0 0, .int .i64 0, .int .i64 0] 86) := by
  go_enter Try.func25, Try.ntmps25
  go_wp2
  go_ret
  exact ⟨rfl, rfl⟩
set_option maxRecDepth 100000 in
theorem hp_new (fv : Value) (w : World) : Hp (w.alloc (.cells #[fv, .slice none 0 0, .int .i64 0, .int .i64 0] 86)) w.heap.size w.heap.size fv (.slice none 0 0) [] 0 0 :=
  ⟨heap_alloc_new w _, ownE.nil _ _, by simp, Nat.le_refl _, fun x hx => by simp at hx⟩
set_option maxRecDepth 100000 in
theorem alloc_grown (w : World) (o : Obj) : Grown w (w.alloc o) := (Grown.refl w).alloc o
set_option maxRecDepth 100000 in
theorem top_nil (w : World) : Calls Try.prog 61 #[.pointer none] w fun e w' => e = .returned (topV (topOf [])) ∧ Grown w w' := by
  have HG : Hid (∀ (W : World) (o : Obj), Grown w W → Grown w (W.alloc o)) := Lib.hid fun W o h => h.alloc o
  have HR := Lib.hid (Grown.refl w)
  go_enter Try.func61, Try.ntmps61
  go_wp2_with (go_at_call 36; refine (hlen_nil _).mono ?_; rintro e w1 ⟨rfl, rfl⟩)
  refine bodyPost_ret (v := topV (topOf [])) (by rw [results_cell_tmp rfl]; simp [go_sem, topV, topOf, entV]) rfl ?_
  exact ⟨rfl, HG.out _ _ (HG.out _ _ HR.out)⟩
set_option maxRecDepth 100000 in
set_option maxHeartbeats 1000000 in
theorem top_any (h : Hp w B K fv v A pu pk) : Calls Try.prog 61 #[.pointer (some ⟨K, 0, none⟩)] w fun e w' => e = .returned (topV (topOf A)) ∧ Grown w w' := by
  have HR := Lib.hid (Grown.refl w)
  have HA := Lib.hid (h.grown (HR.out.alloc (.cells #[.int .i64 0, .int .i64 0, .int .i64 0, .int .i64 0, .int .i64 0, .int .i64 0] 61)))
  cases A with
  | nil =>
    clear h
    go_enter Try.func61, Try.ntmps61
    go_wp2_with (go_at_call 36; refine (hlen_any HA.out).mono ?_; rintro e w1 ⟨rfl, rfl⟩)
    refine bodyPost_ret (v := topV (topOf [])) (by rw [results_cell_tmp rfl]; simp [go_sem, topV, topOf, entV]) rfl ?_
    exact ⟨rfl, (HR.out.alloc _).alloc _⟩
  | cons a t =>
    obtain ⟨g, cap, rfl, hc, hB, hgw, hgK⟩ := HA.out.place (by simp)
    obtain ⟨c0, c1, c2, c3⟩ := HA.out.cells
    obtain ⟨a0, a1, a2, a3, a4, a5, _, _, _, _, _, _⟩ := HA.out.at (j := 0) (by simp)
    rw [Nat.zero_mul] at a0 a1 a2 a3 a4 a5
    rw [Nat.zero_add] at a1 a2 a3 a4 a5
    have cL := hlen_any HA.out
    obtain ⟨n, hn⟩ : ∃ n, (a :: t).length = n := ⟨_, rfl⟩
    have hn0 : ((n : Int) == 0) = false := by simp at hn; simp; omega
    have hn1 : (0 : Int) < (n : Int) := by simp at hn; omega
    rw [hn] at c1 cL hc
    obtain ⟨⟨x0, x1, x2, x3, x4, x5⟩, hx⟩ : ∃ x, x = a := ⟨_, rfl⟩
    rw [List.getElem_cons_zero, ← hx] at a0 a1 a2 a3 a4 a5
    rw [← hx]
    clear h hn hx
    go_enter Try.func61, Try.ntmps61
    go_wp2_with (go_at_call 36; refine cL.mono ?_; rintro e w1 ⟨rfl, rfl⟩)
    refine bodyPost_ret (v := topV (topOf ((x0, x1, x2, x3, x4, x5) :: t))) (by rw [results_cell_tmp rfl]; simp [go_sem, topV, topOf, entV]) rfl ?_
    exact ⟨rfl, HR.out.alloc _⟩
end Go.Proofs.Ytbnekkcjkdghcaa
