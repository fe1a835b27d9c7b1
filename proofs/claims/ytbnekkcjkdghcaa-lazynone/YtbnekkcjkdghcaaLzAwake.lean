/- The document's example comes out as it says. -/
import Derived.Test.YtbnekkcjkdghcaaLzLaw
namespace Go.Proofs.Ytbnekkcjkdghcaa
open Go.RowKit Go.Maps Go.Shelf
open Go.Sort (grow grow_empty grow_grow alloc_eq_grow heap_grow_old)

set_option maxRecDepth 100000 in
theorem item_eql_yes (p q n : Int) (w : World) : (binOp .eql 48 (.agg #[.int .i64 p, .int .i64 q, .int .i64 n]) (.agg #[.int .i64 p, .int .i64 q, .int .i64 n])).run Try.prog w = .ok (.bool true) w := by
  have u48 := Try.underlying48
  have u41 := Try.underlying41
  have u3 := Try.underlying3
  simp [go_sem, u48, u41, u3]
set_option maxRecDepth 100000 in
theorem stats_pops (a b d f : Int) (w : World) : (Instr.field 36 (.agg #[.int .i64 0, .int .i64 0, .int .i64 a, .int .i64 b, .int .i64 d, .int .i64 f]) 3).run Try.prog w = .ok (.int .i64 b) w := by kernel_rfl
set_option maxRecDepth 100000 in
set_option maxHeartbeats 4000000 in
theorem awake_any (w : World) : Calls Try.prog 6 #[] w fun e w' => e = .returned (.bool true) ∧ Below w.heap.size w w' := by
  obtain ⟨w1, hw1⟩ : ∃ w1, w.alloc (.cells #[.slice none 0 0, .map none] 70) = w1 := ⟨_, rfl⟩
  have cS := snew_any w
  rw [hw1] at cS
  have hst : Stab w1 w.heap.size (.slice none 0 0) none [] := by rw [← hw1]; exact new_stab w
  have cN := znew_any _ _ _ _ w1 hst (by simp)
  have HB1 : Hid (Below w.heap.size w w1) := Lib.hid (by rw [← hw1]; exact (Below.refl _ w).alloc (Nat.le_refl _) _)
  have heq := item_eql_yes 97 98 2
  have hfd := stats_pops
  clear hst hw1
  go_enter Try.func6, Try.ntmps6
  go_wp2_with fail
  refine cS.mono ?_
  rintro e w2 ⟨rfl, rfl⟩
  go_wp2_with fail
  refine cN.mono ?_
  rintro e w3 ⟨K, S, rfl, hz, hb3, hS⟩
  obtain ⟨N, hN⟩ : ∃ N, w3.heap.size = N := ⟨_, rfl⟩
  obtain ⟨w4, hw4⟩ : ∃ w4, w3.alloc (.cells #[.int .i64 97, .int .i64 98] 41) = w4 := ⟨_, rfl⟩
  have hb34 : Below w3.heap.size w3 w4 := by rw [← hw4]; exact (Below.refl _ w3).alloc (Nat.le_refl _) _
  have hbx4 : w4.heap[N]? = some (.cells #[.int .i64 97, .int .i64 98] 41 (0, 0)) := by rw [← hw4, ← hN]; exact heap_alloc_new w3 _
  have b0 : w4.cell? ⟨N, 0, none⟩ = some (.int .i64 97) := by rw [cell_of_row w4 N _ _ 41 (0, 0) hbx4]; rfl
  have b1 : w4.cell? ⟨N, 1, none⟩ = some (.int .i64 98) := by rw [cell_of_row w4 N _ _ 41 (0, 0) hbx4]; rfl
  have cP := zput_any (97, 98) 3 (hz.below hb34) ⟨by simp, by simp⟩ (there_byte (by simp) (by simp)) (there_byte (by simp) (by simp)) ⟨by simp, by simp⟩ (by simp [newQ])
  have HX : Hid (∀ W, Kept S w4 W → W.heap[N]? = some (.cells #[.int .i64 97, .int .i64 98] 41 (0, 0))) := Lib.hid fun W hk => (hk.block N (by rw [← hw4, World.size_alloc, hN]; omega) fun h => by have := hz.lt N h; omega).trans hbx4
  have HSB : Hid (∀ k, S k → w.heap.size ≤ k) := Lib.hid fun k hk => by
    rcases hS k hk with h | h | h | h
    · exact Nat.le_trans HB1.out.size h
    · omega
    · simp [Value.ownBlock] at h
    · cases h
  have HB4 : Hid (Below w.heap.size w w4) := Lib.hid (HB1.out.trans ((hb3.trans (hb34.mono hb3.size)).mono HB1.out.size))
  clear cS cN hz hb3 hS hb34 hbx4
  go_wp2_with fail
  refine cP.mono ?_
  rintro e w5 ⟨rfl, S5, hz5, hs5⟩
  have hbx5 := HX.out w5 hs5.kept
  have d0 : w5.cell? ⟨N, 0, none⟩ = some (.int .i64 97) := by rw [cell_of_row w5 N _ _ 41 (0, 0) hbx5]; rfl
  have d1 : w5.cell? ⟨N, 1, none⟩ = some (.int .i64 98) := by rw [cell_of_row w5 N _ _ 41 (0, 0) hbx5]; rfl
  have cP2 := zput_any (97, 98) 2 hz5 ⟨by simp, by simp⟩ (there_byte (by simp) (by simp)) (there_byte (by simp) (by simp)) ⟨by simp, by simp⟩ (by show (1 : Int) ≤ 80000; omega)
  rw [awake_put] at cP2
  have HS5 := Lib.hid hs5
  clear cP hz5 hs5 hbx5
  go_wp2_with fail
  refine cP2.mono ?_
  rintro e w6 ⟨rfl, S6, hz6, hs6⟩
  have hk46 : Kept S w4 w6 := HS5.out.kept.trans hs6.kept fun k h1 h2 => HS5.out.out k h2 h1
  have ho6 : ∀ k, S6 k → k < w4.heap.size → S k := fun k h1 h2 => HS5.out.out k (hs6.out k h1 (Nat.lt_of_lt_of_le h2 HS5.out.kept.size)) h2
  have cQ := zpop_any live_two hz6 trivial (fun _ _ h => h) (by show (2 : Int) ≤ 80000; omega)
  have HK46 := Lib.hid hk46; have HO6 := Lib.hid ho6
  clear cP2 hz6 hs6 hk46 ho6
  go_wp2_with fail
  refine cQ.mono ?_
  rintro e w7 ⟨o, l, n, hpo, rfl, S7, hz7, hs7⟩
  obtain ⟨rfl, rfl, hl⟩ := hpo.one good_nil awake_pops (List.Perm.refl _) (fun x hx => by
    simp only [List.mem_cons, List.not_mem_nil, or_false] at hx
    rcases hx with rfl | rfl <;> exact ⟨⟨⟨by simp, by simp⟩, ⟨by simp, by simp⟩, ⟨by simp, by simp⟩⟩, there_byte (by simp) (by simp), there_byte (by simp) (by simp), by simp⟩)
  obtain rfl := hl.eq_nil
  have hk47 : Kept S w4 w7 := HK46.out.trans hs7.kept fun k h1 h2 => HO6.out k h2 h1
  obtain ⟨M, hM⟩ : ∃ M, w7.heap.size = M := ⟨_, rfl⟩
  obtain ⟨w8, hw8⟩ : ∃ w8, w7.alloc (.cells #[.int .i64 97, .int .i64 98, .int .i64 2] 48) = w8 := ⟨_, rfl⟩
  have hg78 : Grown w7 w8 := by rw [← hw8]; exact (Grown.refl w7).alloc _
  have hbN := HX.out w7 hk47
  have hbN8 := (hg78.below.block N (Array.getElem?_eq_some_iff.1 hbN).1).trans hbN
  have hbM8 : w8.heap[M]? = some (.cells #[.int .i64 97, .int .i64 98, .int .i64 2] 48 (0, 0)) := by rw [← hw8, ← hM]; exact heap_alloc_new w7 _
  have f0 : w8.cell? ⟨N, 0, none⟩ = some (.int .i64 97) := by rw [cell_of_row w8 N _ _ 41 (0, 0) hbN8]; rfl
  have f1 : w8.cell? ⟨N, 1, none⟩ = some (.int .i64 98) := by rw [cell_of_row w8 N _ _ 41 (0, 0) hbN8]; rfl
  have g0 : w8.cell? ⟨M, 0, none⟩ = some (.int .i64 97) := by rw [cell_of_row w8 M _ _ 48 (0, 0) hbM8]; rfl
  have g1 : w8.cell? ⟨M, 1, none⟩ = some (.int .i64 98) := by rw [cell_of_row w8 M _ _ 48 (0, 0) hbM8]; rfl
  have g2 : w8.cell? ⟨M, 2, none⟩ = some (.int .i64 2) := by rw [cell_of_row w8 M _ _ 48 (0, 0) hbM8]; rfl
  have cA := zstats_any (hz7.grown hg78)
  have HZ8 := Lib.hid (hz7.grown hg78)
  have HB8 : Hid (Below w.heap.size w w8) := Lib.hid (HB4.out.trans (((hk47.below (B := w.heap.size) HB4.out.size HSB.out)).trans (hg78.below.mono (by have := hk47.size; have := HB4.out.size; omega))))
  clear cQ hz7 hs7 hk47 hbN hbN8 hbM8 hg78 hpo hl
  unfold popV itemV
  simp only
  simp only [popQ] at cA
  unfold statsV at cA
  go_wp2_with fail
  refine cA.mono ?_
  rintro e w9 ⟨rfl, hg9⟩
  have cE := zlen_any (HZ8.out.grown hg9)
  have HG9 := Lib.hid hg9
  clear hg9 cA
  go_wp2_with fail
  refine cE.mono ?_
  rintro e w10 ⟨rfl, rfl⟩
  go_wp2
  go_ret
  exact ⟨rfl, HB8.out.trans (HG9.out.below.mono HB8.out.size)⟩
end Go.Proofs.Ytbnekkcjkdghcaa
