/- Adding to a map of pairs. -/
import Derived.Test.YtejcemmhhpbchaaGreatMapP
import Derived.Deep.RegionHeld3
namespace Go.Proofs.YtejcemmhhpbchaaGreat
open Go.RowKit Go.Maps

set_option maxRecDepth 100000 in
set_option maxHeartbeats 2000000 in
theorem padd_any (b N : Nat) (f : Int × Int → Int) (p q d : Int) (w : World) (h : PMap w b N f) (hp : FitsPr (p, q)) (hd : -1 ≤ d ∧ d ≤ 1) (hN : N ≤ 1000000) :
    Calls Tryz.prog 50 #[.map (some b), .int .i64 p, .int .i64 q, .int .i64 d] w fun e w' => e = .returned (.tuple #[]) ∧ PMap w' b (N + 1) (addP f (p, q) d) ∧ Kept (fun k => k = b) w w' := by
  obtain ⟨w1, hw1⟩ : ∃ w1, w1 = (w.alloc (.cells #[.int .i64 p, .int .i64 q] 37)).drew := ⟨_, rfl⟩
  have hlt := h.lt
  have h1 : PMap w1 b N f := by rw [hw1]; exact h.kept (Below.heap_alloc _ _ _ hlt)
  obtain ⟨w2, w3, w4, v0, st, A⟩ := add_runs h1 hp hd hN
  have HA := Lib.hid A
  have hf := (by obtain ⟨_, _, _, hb⟩ := h1; exact hb (p, q) : -(N : Int) ≤ f (p, q) ∧ f (p, q) ≤ (N : Int))
  have c0 : w1.cell? ⟨w.heap.size, 0, none⟩ = some (.int .i64 p) := by rw [hw1]; simp
  have c1 : w1.cell? ⟨w.heap.size, 1, none⟩ = some (.int .i64 q) := by rw [hw1]; simp
  have hne : w.heap.size ≠ b := by omega
  have d0 : w2.cell? ⟨w.heap.size, 0, none⟩ = some (.int .i64 p) := (turned_cell A.turn2 _ hne).trans c0
  have d1 : w2.cell? ⟨w.heap.size, 1, none⟩ = some (.int .i64 q) := (turned_cell A.turn2 _ hne).trans c1
  have e0 : w3.cell? ⟨w.heap.size, 0, none⟩ = some (.int .i64 p) := (turned_cell A.turn3 _ hne).trans c0
  have e1 : w3.cell? ⟨w.heap.size, 1, none⟩ = some (.int .i64 q) := (turned_cell A.turn3 _ hne).trans c1
  have HG : Hid (Kept (fun k => k = b) w w1) := Lib.hid (by rw [hw1]; exact ((Kept.refl _ w).alloc _).drew)
  have hx := wfI (a := f (p, q) + d) (by omega)
  obtain ⟨g, hg⟩ : ∃ g, f (p, q) = g := ⟨_, rfl⟩
  have l1 := A.look; have l2 := A.entry; have l3 := A.look2; have l4 := A.store; have l5 := A.look3; have l6 := A.drop
  clear A
  unfold pv at l1 l2 l3 l5 l6
  rw [hg] at l1 l3 l4 l5 hf hx
  simp only [goInt] at l1 l2 l3 l4 l5 l6
  have hw' := hw1.symm
  have hwr : IntKind.i64.wrap (g + d) = g + d := IntWalk.i64_in _ (by omega)
  clear hw1 h h1 hp
  by_cases hz : g + d = 0
  · have HZ : Hid (PMap w4 b (N + 1) (addP f (p, q) d)) := Lib.hid (HA.out.gone (by rw [hg]; exact hz))
    have HT : Hid (Kept (fun k => k = b) w w4) := Lib.hid (HG.out.grown HA.out.turn4.grown (by intro k hk _; cases hk; rfl))
    rw [hz] at l4 l5
    have hwr0 : IntKind.i64.wrap (g + d) = 0 := hwr.trans hz
    clear hwr
    clear HA HG hg hne hlt
    go_enter Tryz.func50, Tryz.ntmps50
    go_wp2_with fail
    go_region
    all_goals (go_wp2_with fail)
    all_goals (go_end0)
    all_goals exact ⟨rfl, HZ.out, HT.out⟩
  · have HZ : Hid (PMap w3 b (N + 1) (addP f (p, q) d)) := Lib.hid (HA.out.there (by rw [hg]; exact hz))
    have HT : Hid (Kept (fun k => k = b) w w3) := Lib.hid (HG.out.grown HA.out.turn3.grown (by intro k hk _; cases hk; rfl))
    have hz' : (g + d == 0) = false := by simp [hz]
    clear HA HG hg hne hlt
    go_enter Tryz.func50, Tryz.ntmps50
    go_wp2_with fail
    go_region
    all_goals (go_wp2_with fail)
    all_goals (go_end0)
    all_goals exact ⟨rfl, HZ.out, HT.out⟩
end Go.Proofs.YtejcemmhhpbchaaGreat
