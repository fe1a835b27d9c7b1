/- Changes as a row's elements; how two compare. -/
import Derived.Test.YtdnokkmnpgdplaaPm
import Derived.Test.YtdnokkmnpgdplaaPAdd
import Derived.Shelf.SlSortCmp.QuietGrown
import Derived.Deep.RegionHeld3
namespace Go.Proofs.Ytdnokkmnpgdplaa
open Go.RowKit Go.Maps

def chgE : Elt Chg where
  ty := 47
  sl := 28
  n := 3
  bytes := 24
  zero := .agg #[.int .i64 0, .int .i64 0, .int .i64 0]
  enc := fun x => [.int .i64 x.1.1, .int .i64 x.1.2, .int .i64 x.2]
  under := Try.underlying28
  info := by kernel_rfl
  pos := by decide
  small := by decide
  zlen := by kernel_rfl
  len := fun _ => rfl
  one := fun x u hu => by
    simp only [List.mem_cons, List.not_mem_nil, or_false] at hu
    rcases hu with rfl | rfl | rfl <;> rfl
def chgV (x : Chg) : Value := .agg #[.int .i64 x.1.1, .int .i64 x.1.2, .int .i64 x.2]
def cmpI (a b : Int) : Int := if a < b then -1 else if b < a then 1 else 0
theorem isNaN_any (a : Int) (w : World) : Calls Try.prog 30 #[.int .i64 a] w fun e w' => e = .returned (.bool false) ∧ w' = w := by
  go_enter Try.func30, Try.ntmps30
  go_wp2
  go_ret
  exact ⟨rfl, rfl⟩
theorem cmpI_any (a b : Int) (w : World) : Calls Try.prog 26 #[.int .i64 a, .int .i64 b] w fun e w' => e = .returned (.int .i64 (cmpI a b)) ∧ w' = w := by
  have c1 := isNaN_any a w
  have c2 := isNaN_any b w
  unfold cmpI
  by_cases h1 : a < b
  · rw [if_pos h1]
    go_enter Try.func26, Try.ntmps26
    go_wp2_with fail
    refine c1.mono ?_
    rintro e w1 ⟨rfl, rfl⟩
    go_wp2_with fail
    refine c2.mono ?_
    rintro e w1 ⟨rfl, rfl⟩
    go_wp2
    go_ret
    exact ⟨rfl, rfl⟩
  · rw [if_neg h1]
    by_cases h2 : b < a
    · rw [if_pos h2]
      go_enter Try.func26, Try.ntmps26
      go_wp2_with fail
      refine c1.mono ?_
      rintro e w1 ⟨rfl, rfl⟩
      go_wp2_with fail
      refine c2.mono ?_
      rintro e w1 ⟨rfl, rfl⟩
      go_wp2
      go_ret
      exact ⟨rfl, rfl⟩
    · rw [if_neg h2]
      go_enter Try.func26, Try.ntmps26
      go_wp2_with fail
      refine c1.mono ?_
      rintro e w1 ⟨rfl, rfl⟩
      go_wp2_with fail
      refine c2.mono ?_
      rintro e w1 ⟨rfl, rfl⟩
      go_wp2
      go_ret
      exact ⟨rfl, rfl⟩
def orI (a b : Int) : Int := if a = 0 then b else a
set_option maxHeartbeats 1000000 in
theorem or_any (a b : Int) (g : Nat) (w : World) (h0 : w.cell? ⟨g, 0, none⟩ = some (.int .i64 a)) (h1 : w.cell? ⟨g, 1, none⟩ = some (.int .i64 b)) :
    Calls Try.prog 25 #[.slice (some ⟨g, 0, none⟩) 2 2] w fun e w' => e = .returned (.int .i64 (orI a b)) ∧ w' = w := by
  unfold orI
  by_cases ha : a = 0
  · rw [if_pos ha]
    subst ha
    by_cases hb : b = 0
    · subst hb
      go_enter Try.func25, Try.ntmps25
      go_wp2
      refine wp_loop_rounds 3 ?_
      rw [rounds_succ]
      go_wp2
      rw [rounds_succ]
      go_wp2
      rw [rounds_succ]
      go_wp2
      go_ret
      exact ⟨rfl, rfl⟩
    · go_enter Try.func25, Try.ntmps25
      go_wp2
      refine wp_loop_rounds 2 ?_
      rw [rounds_succ]
      go_wp2
      rw [rounds_succ]
      go_wp2
      go_ret
      exact ⟨rfl, rfl⟩
  · rw [if_neg ha]
    go_enter Try.func25, Try.ntmps25
    go_wp2
    refine wp_loop_rounds 1 ?_
    rw [rounds_succ]
    go_wp2
    go_ret
    exact ⟨rfl, rfl⟩
/-- Below 0: x is ahead of y. -/
def cfC (x y : Chg) : Int := orI (cmpI x.1.1 y.1.1) (cmpI x.1.2 y.1.2)
set_option maxHeartbeats 2000000 in
theorem closure_any (x y : Chg) (W : World) : Calls Try.prog 24 #[chgV x, chgV y] W fun e w' => e = .returned (.int .i64 (cfC x y)) ∧ ∃ q os', w' = Sort.grow (W.drewN q) os' := by
  obtain ⟨⟨a, b⟩, c⟩ := x
  obtain ⟨⟨p, q⟩, r⟩ := y
  unfold chgV cfC
  simp only
  obtain ⟨w1, hw1⟩ : ∃ w1, w1 = (W.alloc (.cells #[.int .i64 a, .int .i64 b, .int .i64 c] 47)).alloc (.cells #[.int .i64 p, .int .i64 q, .int .i64 r] 47) := ⟨_, rfl⟩
  obtain ⟨o, ho⟩ : ∃ o, o = Obj.cells #[.int .i64 (cmpI a p), .int .i64 (cmpI b q)] 3 (0, 0) := ⟨_, rfl⟩
  have HG : Hid (∃ q os', (w1.alloc o).drew = Sort.grow (W.drewN q) os') := Lib.hid ⟨1, _, by rw [hw1, Sort.alloc_eq_grow, Sort.alloc_eq_grow, Sort.alloc_eq_grow, Sort.grow_grow, Sort.grow_grow]; rfl⟩
  have u0 : w1.cell? ⟨W.heap.size, 0, none⟩ = some (.int .i64 a) := by rw [hw1]; simp
  have u1 : w1.cell? ⟨W.heap.size, 1, none⟩ = some (.int .i64 b) := by rw [hw1]; simp
  have v0 : w1.cell? ⟨W.heap.size + 1, 0, none⟩ = some (.int .i64 p) := by rw [hw1]; simp
  have v1 : w1.cell? ⟨W.heap.size + 1, 1, none⟩ = some (.int .i64 q) := by rw [hw1]; simp
  have cI := fun x y => cmpI_any x y w1.drew
  have hs1 : w1.heap.size = W.heap.size + 1 + 1 := by rw [hw1]; simp
  have bb := (Below.refl w1.heap.size w1).alloc (Nat.le_refl _) o
  have x0 : (w1.alloc o).drew.cell? ⟨W.heap.size, 0, none⟩ = some (.int .i64 a) := (bb.cell (by simp; omega)).trans u0
  have x1 : (w1.alloc o).drew.cell? ⟨W.heap.size, 1, none⟩ = some (.int .i64 b) := (bb.cell (by simp; omega)).trans u1
  have y0 : (w1.alloc o).drew.cell? ⟨W.heap.size + 1, 0, none⟩ = some (.int .i64 p) := (bb.cell (by simp; omega)).trans v0
  have y1 : (w1.alloc o).drew.cell? ⟨W.heap.size + 1, 1, none⟩ = some (.int .i64 q) := (bb.cell (by simp; omega)).trans v1
  have cO := or_any (cmpI a p) (cmpI b q) w1.heap.size (w1.alloc o).drew (by rw [ho]; show (w1.alloc _).cell? _ = _; simp) (by rw [ho]; show (w1.alloc _).cell? _ = _; simp)
  rw [ho] at cO HG x0 x1 y0 y1
  have hw' := hw1.symm
  clear hw1 bb ho hs1
  go_enter Try.func24, Try.ntmps24
  go_wp2_with fail
  go_region_held3 (fun w' => w'.cell? ⟨W.heap.size, 0, none⟩ = some (.int .i64 a) ∧ w'.cell? ⟨W.heap.size, 1, none⟩ = some (.int .i64 b) ∧ w'.cell? ⟨W.heap.size + 1, 0, none⟩ = some (.int .i64 p) ∧ w'.cell? ⟨W.heap.size + 1, 1, none⟩ = some (.int .i64 q)) (first | exact ⟨u0, u1, v0, v1⟩ | exact ⟨x0, x1, y0, y1⟩) (first | (go_at_call 26; refine (cI _ _).mono ?_; rintro e w2 ⟨rfl, rfl⟩) | (go_at_call 25; refine cO.mono ?_; rintro e w2 ⟨rfl, rfl⟩))
  all_goals go_wp2
  all_goals go_ret
  all_goals exact ⟨rfl, HG.out⟩
end Go.Proofs.Ytdnokkmnpgdplaa
