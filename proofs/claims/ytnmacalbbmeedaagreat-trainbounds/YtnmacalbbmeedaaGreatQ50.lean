/- Texts in one: TrD. -/
import Derived.Test.YtnmacalbbmeedaaGreatQ49
/- TrainBudget over what is asked of the program. -/
namespace Go.Proofs.YtnmacalbbmeedaaGreat
open Go.RowKit

set_option maxRecDepth 100000 in
theorem err_budget {L : Bag} {b d lim : Int} (hb : 0 ≤ b ∧ b ≤ 1000) (hd : 1 ≤ d) (hl : 100 ≤ lim ∧ lim ≤ 65536) (hs : ∀ p ∈ L, p.1.size ≤ 100) : errT L b d lim = (checkOf L).2 :=
  err_check (params_yes (by omega)) (long_no fun j hj => by have := hs L[j] (List.getElem_mem _); omega)
set_option maxRecDepth 100000 in
theorem tl_facts {L : Bag} {b d : Int} {z : Int} {ms : List Mg} {s : StN} (hd : 1 ≤ d) (hz : z = (checkOf L).2) (h1 : z ≠ 0 → ms = [] ∧ s = noS) (h2 : z = 0 → Learned (startW L) (countsOf L) b d ms ∧ BoundS s (bytesOf L) ms.length) :
    (((checkOf L).2 ≠ 0 ∨ d < 1) → ms = []) ∧ ((checkOf L).2 = 0 → 1 ≤ d → Learned (startW L) (countsOf L) b d ms) := by
  subst hz
  exact ⟨fun h => (h1 (h.resolve_right (by omega))).1, fun h _ => (h2 h).1⟩
set_option maxRecDepth 100000 in
set_option maxHeartbeats 16000000 in
theorem trainBudget_over (hT : TLearns) (x : Value) (bu le mo : Int) (w : World) (L : Bag) (hx : wordsAt w x L) (hL : L.length ≤ 9223372036854775807) (hf : Fits L) (b0 : 0 ≤ bu) (b1 : bu ≤ 255) (d0 : 0 ≤ le) (d1 : le ≤ 255) (m0 : 0 ≤ mo) (m1 : mo ≤ 255) :
    Calls Tryz.prog 6 #[x, .int .u8 bu, .int .u8 le, .int .u8 mo] w fun e w' => e = .returned (.bool true) ∧ Below w.heap.size w w' := by
  have hmixed : Tryz.prog.follows .mixedOrders = true := by kernel_rfl
  have cA := tawake_any hT w
  have hwb : IntKind.i64.wrap bu = bu := IntWalk.i64_in _ (by omega)
  have hwl : IntKind.i64.wrap le = le := IntWalk.i64_in _ (by omega)
  have hwm : IntKind.i64.wrap mo = mo := IntWalk.i64_in _ (by omega)
  have hw1 : IntKind.i64.wrap (1 + le) = 1 + le := IntWalk.i64_in _ (by omega)
  have hw2 : IntKind.i64.wrap (bu + mo) = bu + mo := IntWalk.i64_in _ (by omega)
  have hw3 : IntKind.i64.wrap (1 + le + mo) = 1 + le + mo := IntWalk.i64_in _ (by omega)
  have HX := Lib.hid hx
  have HF := Lib.hid hf
  have HT := Lib.hid hT
  have HLL := Lib.hid hL
  have HR := Lib.hid (And.intro (And.intro b0 b1) (And.intro (And.intro d0 d1) (And.intro m0 m1)))
  clear hx hf hT b0 b1 d0 d1 m0 m1 hL
  go_enter Tryz.func6, Tryz.ntmps6
  go_wp2_with fail
  refine cA.mono ?_
  rintro e w1 ⟨rfl, hb1⟩
  have HB1 := Lib.hid hb1
  have cG := tgreat_any x L w1 (HX.out.below hb1 (Nat.le_refl _)) HLL.out
  clear cA hb1
  go_wp2_with fail
  refine cG.mono ?_
  rintro e w2 ⟨g, rfl, rfl, hg⟩
  clear cG
  cases g with
  | true =>
    go_wp2
    go_ret
    exact ⟨rfl, HB1.out⟩
  | false =>
    obtain ⟨⟨h60, h300⟩, h100⟩ := hg rfl
    have HFEW := Lib.hid (And.intro h60 (And.intro h300 h100))
    clear hg h60 h300 h100
    obtain ⟨w3, hw3'⟩ : ∃ w3, w2.alloc (.cells #[.int .i64 bu, .int .i64 (1 + le), .int .i64 65536] 24) = w3 := ⟨_, rfl⟩
    obtain ⟨B9, hB9⟩ : ∃ B, w2.heap.size = B := ⟨_, rfl⟩
    have h9 : w3.heap[B9]? = some (c3 (bu, 1 + le, 65536)) := by rw [← hw3', ← hB9]; exact heap_alloc_new _ _
    have hb3 : Below w2.heap.size w2 w3 := by rw [← hw3']; exact (Below.refl _ w2).alloc (Nat.le_refl _) _
    have H9 := Lib.hid h9
    have HB3 := Lib.hid (HB1.out.trans (hb3.mono HB1.out.size))
    clear h9 hb3
    go_upto_region 6 with fail
    go_cut [10, 11, 12] from 13 (fun s10 s11 s12 wx => BudRel w3 B9 (bu, 1 + le, 65536) s10 s11 s12 wx)
    case first =>
      have hS3 : At9 B9 (bu, 1 + le, 65536) w3 := by
        have h := H9.out
        exact ⟨by rw [cell_of_row w3 B9 _ _ _ (0, 0) h]; rfl, by rw [cell_of_row w3 B9 _ _ _ (0, 0) h]; rfl, by rw [cell_of_row w3 B9 _ _ _ (0, 0) h]; rfl⟩
      have hS0 : At9 B9 (bu, 1 + le, 65536) w3.drew := hS3
      have HB0 : Hid (Below w3.heap.size w3 w3.drew) := Lib.hid (Below.refl _ _).drew
      have H90 : Hid (w3.drew.heap[B9]? = some (c3 (bu, 1 + le, 65536))) := Lib.hid H9.out
      have HLT : Hid (B9 < w3.heap.size) := Lib.hid (Array.getElem?_eq_some_iff.1 H9.out).1
      refine region_K (S := At9 B9 (bu, 1 + le, 65536)) [] hmixed ?_
      obtain ⟨W0, hW0⟩ : ∃ W0, w3.drew = W0 := ⟨_, rfl⟩
      rw [hW0] at hS0 HB0 H90 ⊢
      obtain ⟨n0, hn0⟩ : ∃ n, W0.heap.size = n := ⟨_, rfl⟩
      have HN0 : Hid (w3.heap.size = n0) := Lib.hid (by rw [← hn0, ← hW0]; rfl)
      clear hS3 hW0 hw3' hB9
      refine K_at (i := 0) (oi := _) (v := ?_) rfl (by kernel_rfl) (by kernel_rfl) (by kernel_rfl) (by kernel_rfl) (fun _ _ _ h => h) (Or.inl ⟨by rfl, ?_⟩) (by assumption) ?_
      rotate_left
      · (intro w hSw; (try dsimp only at hSw); go_simp; try with_reducible rfl)
      try simp only [Act.put, List.setIfInBounds_toArray, List.set_cons_zero, List.set_cons_succ]
      refine K_at (i := 1) (oi := _) (v := ?_) rfl (by kernel_rfl) (by kernel_rfl) (by kernel_rfl) (by kernel_rfl) (fun _ _ _ h => h) (Or.inl ⟨by rfl, ?_⟩) (by assumption) ?_
      rotate_left
      · (intro w hSw; (try dsimp only at hSw); go_simp; try with_reducible rfl)
      try simp only [Act.put, List.setIfInBounds_toArray, List.set_cons_zero, List.set_cons_succ]
      refine K_at (i := 2) (oi := _) (v := ?_) rfl (by kernel_rfl) (by kernel_rfl) (by kernel_rfl) (by kernel_rfl) (fun _ _ _ h => h) (Or.inl ⟨by rfl, ?_⟩) (by assumption) ?_
      rotate_left
      · (intro w hSw; (try dsimp only at hSw); go_simp; try with_reducible rfl)
      try simp only [Act.put, List.setIfInBounds_toArray, List.set_cons_zero, List.set_cons_succ]
      have hz0' : ∀ W : World, W.alloc (.cells #[.int .i64 0, .int .i64 0, .int .i64 0] 24) = W.alloc (c3 (0, 0, 0)) := fun _ => rfl
      obtain ⟨W1, hW1⟩ : ∃ W, W0.alloc (.cells #[.int .i64 0, .int .i64 0, .int .i64 0] 24) = W := ⟨_, rfl⟩
      obtain ⟨n1, hn1⟩ : ∃ n, W1.heap.size = n := ⟨_, rfl⟩
      obtain ⟨W2, hW2⟩ : ∃ W, W1.alloc (.cells #[.int .i64 0, .int .i64 0, .int .i64 0] 24) = W := ⟨_, rfl⟩
      obtain ⟨n2, hn2⟩ : ∃ n, W2.heap.size = n := ⟨_, rfl⟩
      obtain ⟨W3, hW3⟩ : ∃ W, W2.alloc (.cells #[.int .i64 0, .int .i64 0, .int .i64 0] 24) = W := ⟨_, rfl⟩
      have e1 : n1 = n0 + 1 := by rw [← hn1, ← hW1, World.size_alloc, hn0]
      have e2 : n2 = n1 + 1 := by rw [← hn2, ← hW2, World.size_alloc, hn1]
      have hB1 : Below W0.heap.size W0 W1 := by rw [← hW1]; exact (Below.refl _ _).alloc (Nat.le_refl _) _
      have hB2 : Below W1.heap.size W1 W2 := by rw [← hW2]; exact (Below.refl _ _).alloc (Nat.le_refl _) _
      have hB3 : Below W2.heap.size W2 W3 := by rw [← hW3]; exact (Below.refl _ _).alloc (Nat.le_refl _) _
      have hlt0 : B9 < n0 := by have := HN0.out; have := HLT.out; omega
      have k1 : W1.heap[B9]? = some (c3 (bu, 1 + le, 65536)) := (hB1.block B9 (by omega)).trans H90.out
      have k2 : W2.heap[B9]? = some (c3 (bu, 1 + le, 65536)) := (hB2.block B9 (by omega)).trans k1
      have k3 : W3.heap[B9]? = some (c3 (bu, 1 + le, 65536)) := (hB3.block B9 (by omega)).trans k2
      have at9 : ∀ W : World, W.heap[B9]? = some (c3 (bu, 1 + le, 65536)) → At9 B9 (bu, 1 + le, 65536) W := fun W h => ⟨by rw [cell_of_row W B9 _ _ _ (0, 0) h]; rfl, by rw [cell_of_row W B9 _ _ _ (0, 0) h]; rfl, by rw [cell_of_row W B9 _ _ _ (0, 0) h]; rfl⟩
      have hS1 := at9 W1 k1
      have hS2 := at9 W2 k2
      have hS3 := at9 W3 k3
      have hz0 : W3.heap[n0]? = some (c3 (0, 0, 0)) := (hB3.block n0 (by omega)).trans ((hB2.block n0 (by omega)).trans (by rw [← hW1, ← hn0]; exact heap_alloc_new _ _))
      have hz1 : W3.heap[n1]? = some (c3 (0, 0, 0)) := (hB3.block n1 (by omega)).trans (by rw [← hW2, ← hn1]; exact heap_alloc_new _ _)
      have hz2 : W3.heap[n2]? = some (c3 (0, 0, 0)) := by rw [← hW3, ← hn2]; exact heap_alloc_new _ _
      have HBE : Hid (Below w3.heap.size w3 W3) := Lib.hid (((HB0.out.trans (hB1.mono HB0.out.size)).trans (hB2.mono (by have := HB0.out.size; have := hB1.size; omega))).trans (hB3.mono (by have := HB0.out.size; have := hB1.size; have := hB2.size; omega)))
      have H93 := Lib.hid k3
      have HE1 := Lib.hid e1
      have HE2 := Lib.hid e2
      clear hz0' hB1 hB2 hB3 k1 k2 k3 at9 e1 e2 hlt0
      refine K_three 3 4 5 (by kernel_rfl) rfl rfl rfl ?_ ?_ ?_
      · intro K hK
        go_simp
        try rw [hn0]
        try rw [hW1]
        refine hK.out _ _ (fun _ => hS1) ?_
        clear hK K
        try simp only [Act.put, List.setIfInBounds_toArray, List.set_cons_zero, List.set_cons_succ]
        refine K_two 4 5 (by kernel_rfl) rfl rfl ?_ ?_
        · intro K hK
          go_simp
          try rw [hn1]
          try rw [hW2]
          refine hK.out _ _ (fun _ => hS2) ?_
          clear hK K
          try simp only [Act.put, List.setIfInBounds_toArray, List.set_cons_zero, List.set_cons_succ]
          refine K_only 5 (by kernel_rfl) rfl ?_
          intro K hK
          go_simp
          try rw [hn2]
          try rw [hW3]
          refine hK.out _ _ (fun _ => hS3) ?_
          clear hK K
          try simp only [Act.put, List.setIfInBounds_toArray, List.set_cons_zero, List.set_cons_succ]
          have hb0 : Bud w3 B9 n0 n1 n2 (bu, 1 + le, 65536) (0, 0, 0) (0, 0, 0) (0, 0, 0) W3 := ⟨HBE.out, H93.out, hz0, hz1, hz2, by have := HN0.out; have := HLT.out; have := HE1.out; have := HE2.out; omega⟩
          obtain ⟨q0, g0⟩ := hb0.xc0
          obtain ⟨q1, g1⟩ := hb0.xc1
          obtain ⟨q2, g2⟩ := hb0.xc2
          refine K_only 6 (by kernel_rfl) rfl ?_
          intro K hK
          go_simp
          have hn6 := ((hb0.x0 bu).x1 (1 + le)).x2 65536
          refine hK.out _ _ (fun _ => hn6.c9) ?_
          clear hK K q0 q1 q2 g0 g1 g2 hb0
          try simp only [Act.put, List.setIfInBounds_toArray, List.set_cons_zero, List.set_cons_succ]
          obtain ⟨q0, g0⟩ := hn6.yc0
          obtain ⟨q1, g1⟩ := hn6.yc1
          obtain ⟨q2, g2⟩ := hn6.yc2
          refine K_only 7 (by kernel_rfl) rfl ?_
          intro K hK
          go_simp
          have hn7 := ((hn6.y0 bu).y1 (1 + le)).y2 65536
          refine hK.out _ _ (fun _ => hn7.c9) ?_
          clear hK K q0 q1 q2 g0 g1 g2 hn6
          try simp only [Act.put, List.setIfInBounds_toArray, List.set_cons_zero, List.set_cons_succ]
          obtain ⟨q0, g0⟩ := hn7.zc0
          obtain ⟨q1, g1⟩ := hn7.zc1
          obtain ⟨q2, g2⟩ := hn7.zc2
          refine K_only 8 (by kernel_rfl) rfl ?_
          intro K hK
          go_simp
          have hn8 := ((hn7.z0 bu).z1 (1 + le)).z2 65536
          refine hK.out _ _ (fun _ => hn8.c9) ?_
          clear hK K q0 q1 q2 g0 g1 g2 hn7
          try simp only [Act.put, List.setIfInBounds_toArray, List.set_cons_zero, List.set_cons_succ]
          refine K_done (by kernel_rfl) ?_ _
          go_wp2_with fail
          go_meet
          exact ⟨_, _, _, rfl, rfl, rfl, hn8⟩
        · intro K hK
          go_simp
          try rw [hn1]
          try rw [hW2]
          refine hK.out _ _ (fun _ => hS2) ?_
          clear hK K
          try simp only [Act.put, List.setIfInBounds_toArray, List.set_cons_zero, List.set_cons_succ]
          refine K_only 4 (by kernel_rfl) rfl ?_
          intro K hK
          go_simp
          try rw [hn2]
          try rw [hW3]
          refine hK.out _ _ (fun _ => hS3) ?_
          clear hK K
          try simp only [Act.put, List.setIfInBounds_toArray, List.set_cons_zero, List.set_cons_succ]
          have hb0 : Bud w3 B9 n0 n2 n1 (bu, 1 + le, 65536) (0, 0, 0) (0, 0, 0) (0, 0, 0) W3 := ⟨HBE.out, H93.out, hz0, hz2, hz1, by have := HN0.out; have := HLT.out; have := HE1.out; have := HE2.out; omega⟩
          obtain ⟨q0, g0⟩ := hb0.xc0
          obtain ⟨q1, g1⟩ := hb0.xc1
          obtain ⟨q2, g2⟩ := hb0.xc2
          refine K_only 6 (by kernel_rfl) rfl ?_
          intro K hK
          go_simp
          have hn6 := ((hb0.x0 bu).x1 (1 + le)).x2 65536
          refine hK.out _ _ (fun _ => hn6.c9) ?_
          clear hK K q0 q1 q2 g0 g1 g2 hb0
          try simp only [Act.put, List.setIfInBounds_toArray, List.set_cons_zero, List.set_cons_succ]
          obtain ⟨q0, g0⟩ := hn6.yc0
          obtain ⟨q1, g1⟩ := hn6.yc1
          obtain ⟨q2, g2⟩ := hn6.yc2
          refine K_only 7 (by kernel_rfl) rfl ?_
          intro K hK
          go_simp
          have hn7 := ((hn6.y0 bu).y1 (1 + le)).y2 65536
          refine hK.out _ _ (fun _ => hn7.c9) ?_
          clear hK K q0 q1 q2 g0 g1 g2 hn6
          try simp only [Act.put, List.setIfInBounds_toArray, List.set_cons_zero, List.set_cons_succ]
          obtain ⟨q0, g0⟩ := hn7.zc0
          obtain ⟨q1, g1⟩ := hn7.zc1
          obtain ⟨q2, g2⟩ := hn7.zc2
          refine K_only 8 (by kernel_rfl) rfl ?_
          intro K hK
          go_simp
          have hn8 := ((hn7.z0 bu).z1 (1 + le)).z2 65536
          refine hK.out _ _ (fun _ => hn8.c9) ?_
          clear hK K q0 q1 q2 g0 g1 g2 hn7
          try simp only [Act.put, List.setIfInBounds_toArray, List.set_cons_zero, List.set_cons_succ]
          refine K_done (by kernel_rfl) ?_ _
          go_wp2_with fail
          go_meet
          exact ⟨_, _, _, rfl, rfl, rfl, hn8⟩
      · intro K hK
        go_simp
        try rw [hn0]
        try rw [hW1]
        refine hK.out _ _ (fun _ => hS1) ?_
        clear hK K
        try simp only [Act.put, List.setIfInBounds_toArray, List.set_cons_zero, List.set_cons_succ]
        refine K_two 3 5 (by kernel_rfl) rfl rfl ?_ ?_
        · intro K hK
          go_simp
          try rw [hn1]
          try rw [hW2]
          refine hK.out _ _ (fun _ => hS2) ?_
          clear hK K
          try simp only [Act.put, List.setIfInBounds_toArray, List.set_cons_zero, List.set_cons_succ]
          refine K_only 5 (by kernel_rfl) rfl ?_
          intro K hK
          go_simp
          try rw [hn2]
          try rw [hW3]
          refine hK.out _ _ (fun _ => hS3) ?_
          clear hK K
          try simp only [Act.put, List.setIfInBounds_toArray, List.set_cons_zero, List.set_cons_succ]
          have hb0 : Bud w3 B9 n1 n0 n2 (bu, 1 + le, 65536) (0, 0, 0) (0, 0, 0) (0, 0, 0) W3 := ⟨HBE.out, H93.out, hz1, hz0, hz2, by have := HN0.out; have := HLT.out; have := HE1.out; have := HE2.out; omega⟩
          obtain ⟨q0, g0⟩ := hb0.xc0
          obtain ⟨q1, g1⟩ := hb0.xc1
          obtain ⟨q2, g2⟩ := hb0.xc2
          refine K_only 6 (by kernel_rfl) rfl ?_
          intro K hK
          go_simp
          have hn6 := ((hb0.x0 bu).x1 (1 + le)).x2 65536
          refine hK.out _ _ (fun _ => hn6.c9) ?_
          clear hK K q0 q1 q2 g0 g1 g2 hb0
          try simp only [Act.put, List.setIfInBounds_toArray, List.set_cons_zero, List.set_cons_succ]
          obtain ⟨q0, g0⟩ := hn6.yc0
          obtain ⟨q1, g1⟩ := hn6.yc1
          obtain ⟨q2, g2⟩ := hn6.yc2
          refine K_only 7 (by kernel_rfl) rfl ?_
          intro K hK
          go_simp
          have hn7 := ((hn6.y0 bu).y1 (1 + le)).y2 65536
          refine hK.out _ _ (fun _ => hn7.c9) ?_
          clear hK K q0 q1 q2 g0 g1 g2 hn6
          try simp only [Act.put, List.setIfInBounds_toArray, List.set_cons_zero, List.set_cons_succ]
          obtain ⟨q0, g0⟩ := hn7.zc0
          obtain ⟨q1, g1⟩ := hn7.zc1
          obtain ⟨q2, g2⟩ := hn7.zc2
          refine K_only 8 (by kernel_rfl) rfl ?_
          intro K hK
          go_simp
          have hn8 := ((hn7.z0 bu).z1 (1 + le)).z2 65536
          refine hK.out _ _ (fun _ => hn8.c9) ?_
          clear hK K q0 q1 q2 g0 g1 g2 hn7
          try simp only [Act.put, List.setIfInBounds_toArray, List.set_cons_zero, List.set_cons_succ]
          refine K_done (by kernel_rfl) ?_ _
          go_wp2_with fail
          go_meet
          exact ⟨_, _, _, rfl, rfl, rfl, hn8⟩
        · intro K hK
          go_simp
          try rw [hn1]
          try rw [hW2]
          refine hK.out _ _ (fun _ => hS2) ?_
          clear hK K
          try simp only [Act.put, List.setIfInBounds_toArray, List.set_cons_zero, List.set_cons_succ]
          refine K_only 3 (by kernel_rfl) rfl ?_
          intro K hK
          go_simp
          try rw [hn2]
          try rw [hW3]
          refine hK.out _ _ (fun _ => hS3) ?_
          clear hK K
          try simp only [Act.put, List.setIfInBounds_toArray, List.set_cons_zero, List.set_cons_succ]
          have hb0 : Bud w3 B9 n2 n0 n1 (bu, 1 + le, 65536) (0, 0, 0) (0, 0, 0) (0, 0, 0) W3 := ⟨HBE.out, H93.out, hz2, hz0, hz1, by have := HN0.out; have := HLT.out; have := HE1.out; have := HE2.out; omega⟩
          obtain ⟨q0, g0⟩ := hb0.xc0
          obtain ⟨q1, g1⟩ := hb0.xc1
          obtain ⟨q2, g2⟩ := hb0.xc2
          refine K_only 6 (by kernel_rfl) rfl ?_
          intro K hK
          go_simp
          have hn6 := ((hb0.x0 bu).x1 (1 + le)).x2 65536
          refine hK.out _ _ (fun _ => hn6.c9) ?_
          clear hK K q0 q1 q2 g0 g1 g2 hb0
          try simp only [Act.put, List.setIfInBounds_toArray, List.set_cons_zero, List.set_cons_succ]
          obtain ⟨q0, g0⟩ := hn6.yc0
          obtain ⟨q1, g1⟩ := hn6.yc1
          obtain ⟨q2, g2⟩ := hn6.yc2
          refine K_only 7 (by kernel_rfl) rfl ?_
          intro K hK
          go_simp
          have hn7 := ((hn6.y0 bu).y1 (1 + le)).y2 65536
          refine hK.out _ _ (fun _ => hn7.c9) ?_
          clear hK K q0 q1 q2 g0 g1 g2 hn6
          try simp only [Act.put, List.setIfInBounds_toArray, List.set_cons_zero, List.set_cons_succ]
          obtain ⟨q0, g0⟩ := hn7.zc0
          obtain ⟨q1, g1⟩ := hn7.zc1
          obtain ⟨q2, g2⟩ := hn7.zc2
          refine K_only 8 (by kernel_rfl) rfl ?_
          intro K hK
          go_simp
          have hn8 := ((hn7.z0 bu).z1 (1 + le)).z2 65536
          refine hK.out _ _ (fun _ => hn8.c9) ?_
          clear hK K q0 q1 q2 g0 g1 g2 hn7
          try simp only [Act.put, List.setIfInBounds_toArray, List.set_cons_zero, List.set_cons_succ]
          refine K_done (by kernel_rfl) ?_ _
          go_wp2_with fail
          go_meet
          exact ⟨_, _, _, rfl, rfl, rfl, hn8⟩
      · intro K hK
        go_simp
        try rw [hn0]
        try rw [hW1]
        refine hK.out _ _ (fun _ => hS1) ?_
        clear hK K
        try simp only [Act.put, List.setIfInBounds_toArray, List.set_cons_zero, List.set_cons_succ]
        refine K_two 3 4 (by kernel_rfl) rfl rfl ?_ ?_
        · intro K hK
          go_simp
          try rw [hn1]
          try rw [hW2]
          refine hK.out _ _ (fun _ => hS2) ?_
          clear hK K
          try simp only [Act.put, List.setIfInBounds_toArray, List.set_cons_zero, List.set_cons_succ]
          refine K_only 4 (by kernel_rfl) rfl ?_
          intro K hK
          go_simp
          try rw [hn2]
          try rw [hW3]
          refine hK.out _ _ (fun _ => hS3) ?_
          clear hK K
          try simp only [Act.put, List.setIfInBounds_toArray, List.set_cons_zero, List.set_cons_succ]
          have hb0 : Bud w3 B9 n1 n2 n0 (bu, 1 + le, 65536) (0, 0, 0) (0, 0, 0) (0, 0, 0) W3 := ⟨HBE.out, H93.out, hz1, hz2, hz0, by have := HN0.out; have := HLT.out; have := HE1.out; have := HE2.out; omega⟩
          obtain ⟨q0, g0⟩ := hb0.xc0
          obtain ⟨q1, g1⟩ := hb0.xc1
          obtain ⟨q2, g2⟩ := hb0.xc2
          refine K_only 6 (by kernel_rfl) rfl ?_
          intro K hK
          go_simp
          have hn6 := ((hb0.x0 bu).x1 (1 + le)).x2 65536
          refine hK.out _ _ (fun _ => hn6.c9) ?_
          clear hK K q0 q1 q2 g0 g1 g2 hb0
          try simp only [Act.put, List.setIfInBounds_toArray, List.set_cons_zero, List.set_cons_succ]
          obtain ⟨q0, g0⟩ := hn6.yc0
          obtain ⟨q1, g1⟩ := hn6.yc1
          obtain ⟨q2, g2⟩ := hn6.yc2
          refine K_only 7 (by kernel_rfl) rfl ?_
          intro K hK
          go_simp
          have hn7 := ((hn6.y0 bu).y1 (1 + le)).y2 65536
          refine hK.out _ _ (fun _ => hn7.c9) ?_
          clear hK K q0 q1 q2 g0 g1 g2 hn6
          try simp only [Act.put, List.setIfInBounds_toArray, List.set_cons_zero, List.set_cons_succ]
          obtain ⟨q0, g0⟩ := hn7.zc0
          obtain ⟨q1, g1⟩ := hn7.zc1
          obtain ⟨q2, g2⟩ := hn7.zc2
          refine K_only 8 (by kernel_rfl) rfl ?_
          intro K hK
          go_simp
          have hn8 := ((hn7.z0 bu).z1 (1 + le)).z2 65536
          refine hK.out _ _ (fun _ => hn8.c9) ?_
          clear hK K q0 q1 q2 g0 g1 g2 hn7
          try simp only [Act.put, List.setIfInBounds_toArray, List.set_cons_zero, List.set_cons_succ]
          refine K_done (by kernel_rfl) ?_ _
          go_wp2_with fail
          go_meet
          exact ⟨_, _, _, rfl, rfl, rfl, hn8⟩
        · intro K hK
          go_simp
          try rw [hn1]
          try rw [hW2]
          refine hK.out _ _ (fun _ => hS2) ?_
          clear hK K
          try simp only [Act.put, List.setIfInBounds_toArray, List.set_cons_zero, List.set_cons_succ]
          refine K_only 3 (by kernel_rfl) rfl ?_
          intro K hK
          go_simp
          try rw [hn2]
          try rw [hW3]
          refine hK.out _ _ (fun _ => hS3) ?_
          clear hK K
          try simp only [Act.put, List.setIfInBounds_toArray, List.set_cons_zero, List.set_cons_succ]
          have hb0 : Bud w3 B9 n2 n1 n0 (bu, 1 + le, 65536) (0, 0, 0) (0, 0, 0) (0, 0, 0) W3 := ⟨HBE.out, H93.out, hz2, hz1, hz0, by have := HN0.out; have := HLT.out; have := HE1.out; have := HE2.out; omega⟩
          obtain ⟨q0, g0⟩ := hb0.xc0
          obtain ⟨q1, g1⟩ := hb0.xc1
          obtain ⟨q2, g2⟩ := hb0.xc2
          refine K_only 6 (by kernel_rfl) rfl ?_
          intro K hK
          go_simp
          have hn6 := ((hb0.x0 bu).x1 (1 + le)).x2 65536
          refine hK.out _ _ (fun _ => hn6.c9) ?_
          clear hK K q0 q1 q2 g0 g1 g2 hb0
          try simp only [Act.put, List.setIfInBounds_toArray, List.set_cons_zero, List.set_cons_succ]
          obtain ⟨q0, g0⟩ := hn6.yc0
          obtain ⟨q1, g1⟩ := hn6.yc1
          obtain ⟨q2, g2⟩ := hn6.yc2
          refine K_only 7 (by kernel_rfl) rfl ?_
          intro K hK
          go_simp
          have hn7 := ((hn6.y0 bu).y1 (1 + le)).y2 65536
          refine hK.out _ _ (fun _ => hn7.c9) ?_
          clear hK K q0 q1 q2 g0 g1 g2 hn6
          try simp only [Act.put, List.setIfInBounds_toArray, List.set_cons_zero, List.set_cons_succ]
          obtain ⟨q0, g0⟩ := hn7.zc0
          obtain ⟨q1, g1⟩ := hn7.zc1
          obtain ⟨q2, g2⟩ := hn7.zc2
          refine K_only 8 (by kernel_rfl) rfl ?_
          intro K hK
          go_simp
          have hn8 := ((hn7.z0 bu).z1 (1 + le)).z2 65536
          refine hK.out _ _ (fun _ => hn8.c9) ?_
          clear hK K q0 q1 q2 g0 g1 g2 hn7
          try simp only [Act.put, List.setIfInBounds_toArray, List.set_cons_zero, List.set_cons_succ]
          refine K_done (by kernel_rfl) ?_ _
          go_wp2_with fail
          go_meet
          exact ⟨_, _, _, rfl, rfl, rfl, hn8⟩
    case rest =>
      clear hw3' hB9
      obtain ⟨X, Y, Z, rfl, rfl, rfl, hbud⟩ := hcut
      obtain ⟨x0, f0⟩ := hbud.xc0
      have h1 := hbud.x0 (bu + mo)
      obtain ⟨y1, f1⟩ := h1.yc1
      have h2 := h1.y1 (1 + le + mo)
      obtain ⟨z2, f2⟩ := h2.zc2
      have h3 := h2.z2 101
      simp only at x0 y1 z2 h1 h2 h3 f1 f2
      obtain ⟨W4, hW4⟩ : ∃ W, ((wc.setCell ⟨X, 0, none⟩ (.int .i64 (bu + mo))).setCell ⟨Y, 1, none⟩ (.int .i64 (1 + le + mo))).setCell ⟨Z, 2, none⟩ (.int .i64 101) = W := ⟨_, rfl⟩
      rw [hW4] at h3
      have HU4 := Lib.hid h3
      have HB4 : Hid (Below w.heap.size w W4) := Lib.hid (HB3.out.trans (h3.bel.mono HB3.out.size))
      obtain ⟨p0, p1, p2⟩ := h3.c9
      simp only at p0 p1 p2
      obtain ⟨er, her⟩ : ∃ z, (checkOf L).2 = z := ⟨_, rfl⟩
      have HER := Lib.hid her.symm
      have ask : Hid (∀ (bb dd ll : Int) (w' : World), Below w.heap.size w w' → (0 ≤ bb ∧ bb ≤ 1000) → (1 ≤ dd ∧ dd ≤ 1000) → (100 ≤ ll ∧ ll ≤ 65536) → Calls Tryz.prog 9 #[x, .agg #[.int .i64 bb, .int .i64 dd, .int .i64 ll]] w' fun e w'' => ∃ v ms s1 s2 s3 s4 s5 s6, e = .returned (.tuple #[v, .agg #[.int .i64 s1, .int .i64 s2, .int .i64 s3, .int .i64 s4, .int .i64 s5, .int .i64 s6], .int .i64 er]) ∧ eltsAt mergeE w'' v ms ∧ Below w'.heap.size w' w'' ∧ ((((checkOf L).2 ≠ 0 ∨ dd < 1) → ms = []) ∧ ((checkOf L).2 = 0 → 1 ≤ dd → Learned (startW L) (countsOf L) bb dd ms)) ∧ ∀ a n c, v = .slice a n c → n ≤ c) :=
        Lib.hid fun bb dd ll w' hb g1 g2 g3 => (HT.out x L bb dd ll w' (HX.out.below hb (Nat.le_refl _)) HFEW.out.1 HF.out HFEW.out.2.1 ⟨by omega, by omega⟩ ⟨by omega, by omega⟩ ⟨by omega, by omega⟩).mono fun e w'' hr => by
          obtain ⟨v, ms, ⟨s1, s2, s3, s4, s5, s6⟩, rfl, hv, hb2, k1, k2, _, k4⟩ := hr
          have he := err_budget (L := L) g1 g2.1 g3 HFEW.out.2.2
          rw [he] at k1 k2 ⊢
          exact ⟨v, ms, s1, s2, s3, s4, s5, s6, by rw [her]; rfl, hv, hb2, tl_facts g2.1 rfl k1 k2, k4⟩
      have hR := HR.out
      have cN := ask.out bu (1 + le) 65536 W4 HB4.out (by omega) (by omega) (by omega)
      clear hbud h1 h2 h3 her hR
      go_wp2_with fail
      refine cN.mono ?_
      rintro e w5 ⟨va, A, s1, s2, s3, s4, s5, s6, rfl, hva, hb5, hA, acap⟩
      clear cN x0 y1 z2 f0 f1 f2 p0 p1 p2 hW4
      obtain ⟨W5, hW5⟩ : ∃ W, w5.alloc (.cells #[.int .i64 s1, .int .i64 s2, .int .i64 s3, .int .i64 s4, .int .i64 s5, .int .i64 s6] 29) = W := ⟨_, rfl⟩
      have hg5 : Below w5.heap.size w5 W5 := by rw [← hW5]; exact (Below.refl _ _).alloc (Nat.le_refl _) _
      have HA := Lib.hid hA
      have HVA := Lib.hid (hva.below hg5 (Nat.le_refl _))
      have HU5 := Lib.hid ((HU4.out.below hb5).below hg5)
      have HB5 := Lib.hid ((HB4.out.trans (hb5.mono HB4.out.size)).trans (hg5.mono (Nat.le_trans HB4.out.size hb5.size)))
      obtain ⟨x0, _⟩ := HU5.out.xc0
      obtain ⟨x1, _⟩ := HU5.out.xc1
      obtain ⟨x2, _⟩ := HU5.out.xc2
      simp only at x0 x1 x2
      have hR := HR.out
      have cN := ask.out (bu + mo) (1 + le) 65536 W5 HB5.out (by omega) (by omega) (by omega)
      clear hva hb5 hA hg5 hR
      go_wp2_with fail
      refine cN.mono ?_
      rintro e w6 ⟨vb, B, t1, t2, t3, t4, t5, t6, rfl, hvb, hb6, hBs, bcap⟩
      clear cN x0 x1 x2 hW5
      obtain ⟨W6, hW6⟩ : ∃ W, w6.alloc (.cells #[.int .i64 t1, .int .i64 t2, .int .i64 t3, .int .i64 t4, .int .i64 t5, .int .i64 t6] 29) = W := ⟨_, rfl⟩
      have hg6 : Below w6.heap.size w6 W6 := by rw [← hW6]; exact (Below.refl _ _).alloc (Nat.le_refl _) _
      have hb56 := hb6.trans (hg6.mono hb6.size)
      have HBs := Lib.hid hBs
      have HVA6 := Lib.hid (HVA.out.below hb56 (Nat.le_refl _))
      have HVB := Lib.hid (hvb.below hg6 (Nat.le_refl _))
      have HU6 := Lib.hid (HU5.out.below hb56)
      have HB6 := Lib.hid (HB5.out.trans (hb56.mono HB5.out.size))
      obtain ⟨x0, _⟩ := HU6.out.yc0
      obtain ⟨x1, _⟩ := HU6.out.yc1
      obtain ⟨x2, _⟩ := HU6.out.yc2
      simp only at x0 x1 x2
      have hR := HR.out
      have cN := ask.out bu (1 + le + mo) 65536 W6 HB6.out (by omega) (by omega) (by omega)
      clear hvb hb6 hBs hg6 hR hb56
      go_wp2_with fail
      refine cN.mono ?_
      rintro e w7 ⟨vc, C, q1, q2, q3, q4, q5, q6, rfl, hvc, hb7, hCs, ccap⟩
      clear cN x0 x1 x2 hW6
      obtain ⟨W7, hW7⟩ : ∃ W, w7.alloc (.cells #[.int .i64 q1, .int .i64 q2, .int .i64 q3, .int .i64 q4, .int .i64 q5, .int .i64 q6] 29) = W := ⟨_, rfl⟩
      have hg7 : Below w7.heap.size w7 W7 := by rw [← hW7]; exact (Below.refl _ _).alloc (Nat.le_refl _) _
      have hb67 := hb7.trans (hg7.mono hb7.size)
      have HCs := Lib.hid hCs
      have HVA7 := Lib.hid (HVA6.out.below hb67 (Nat.le_refl _))
      have HVB7 := Lib.hid (HVB.out.below hb67 (Nat.le_refl _))
      have HVC := Lib.hid (hvc.below hg7 (Nat.le_refl _))
      have HU7 := Lib.hid (HU6.out.below hb67)
      have HB7 := Lib.hid (HB6.out.trans (hb67.mono HB6.out.size))
      obtain ⟨x0, _⟩ := HU7.out.zc0
      obtain ⟨x1, _⟩ := HU7.out.zc1
      obtain ⟨x2, _⟩ := HU7.out.zc2
      simp only at x0 x1 x2
      have hR := HR.out
      have cN := ask.out bu (1 + le) 101 W7 HB7.out (by omega) (by omega) (by omega)
      clear hvc hb7 hCs hg7 hR hb67
      go_wp2_with fail
      refine cN.mono ?_
      rintro e w8 ⟨vd, D, r1, r2, r3, r4, r5, r6, rfl, hvd, hb8, hDs, dcap⟩
      clear cN x0 x1 x2 hW7
      obtain ⟨W8, hW8⟩ : ∃ W, w8.alloc (.cells #[.int .i64 r1, .int .i64 r2, .int .i64 r3, .int .i64 r4, .int .i64 r5, .int .i64 r6] 29) = W := ⟨_, rfl⟩
      have hg8 : Below w8.heap.size w8 W8 := by rw [← hW8]; exact (Below.refl _ _).alloc (Nat.le_refl _) _
      have hb78 := hb8.trans (hg8.mono hb8.size)
      have HVA8 := Lib.hid (HVA7.out.below hb78 (Nat.le_refl _))
      have HVB8 := Lib.hid (HVB7.out.below hb78 (Nat.le_refl _))
      have HVC8 := Lib.hid (HVC.out.below hb78 (Nat.le_refl _))
      have HVD8 := Lib.hid (hvd.below hg8 (Nat.le_refl _))
      have HB8 := Lib.hid (HB7.out.trans (hb78.mono HB7.out.size))
      obtain ⟨aa, ca, rfl, _⟩ := HVA8.out
      obtain ⟨ab, cb, rfl, _⟩ := HVB8.out
      obtain ⟨ac, cc, rfl, _⟩ := HVC8.out
      have hR := HR.out
      obtain ⟨eA, lA⟩ := nv_more (by omega) (by omega) HA.out.1 HA.out.2 HBs.out.1 HBs.out.2 (by omega) (by omega)
      obtain ⟨eC, lC⟩ := nv_more (by omega) (by omega) HCs.out.1 HCs.out.2 HA.out.1 HA.out.2 (by omega) (by omega)
      have eD : A = D := nv_same HA.out.1 HA.out.2 hDs.1 hDs.2
      have smA := (nv_small HFEW.out.2.1 HA.out.1 HA.out.2).1
      have dB : decide ((A.length : Int) ≤ (B.length : Int)) = true := decide_eq_true (by omega)
      have dC : decide ((C.length : Int) ≤ (A.length : Int)) = true := decide_eq_true (by omega)
      have dB' : decide (A.length ≤ B.length) = true := decide_eq_true (by omega)
      have dC' : decide (C.length ≤ A.length) = true := decide_eq_true (by omega)
      have capA := acap _ _ _ rfl
      have capB := bcap _ _ _ rfl
      obtain ⟨s1, run1, at1⟩ := merges_head ab B.length cb A.length (A.length : Int) rfl (by omega)
      obtain ⟨s2, run2, at2⟩ := merges_head aa A.length ca C.length (C.length : Int) rfl (by omega)
      have t1 := at1 W8 B HVB8.out lA
      rw [← eA] at t1
      have cS := nvsame_true _ s1 A W8 HVA8.out t1 (by omega)
      have S2 : Hid (∀ w', Below W8.heap.size W8 w' → Calls Tryz.prog 11 #[.slice ac C.length cc, s2] w' fun e w'' => e = .returned (.bool true) ∧ Below w'.heap.size w' w'') := Lib.hid fun w' hb => by
        have t2 := at2 w' A (HVA8.out.below hb (Nat.le_refl _)) lC
        rw [← eC] at t2
        exact nvsame_true _ s2 C w' (HVC8.out.below hb (Nat.le_refl _)) t2 (by omega)
      have S3 : Hid (∀ w', Below W8.heap.size W8 w' → Calls Tryz.prog 11 #[.slice aa A.length ca, vd] w' fun e w'' => e = .returned (.bool true) ∧ Below w'.heap.size w' w'') := Lib.hid fun w' hb => by
        have t3 := HVD8.out.below hb (Nat.le_refl _)
        rw [← eD] at t3
        exact nvsame_true _ vd A w' (HVA8.out.below hb (Nat.le_refl _)) t3 (by omega)
      clear hR eA lA eC lC smA capA capB acap bcap ccap dcap at1 at2 t1 hvd hb8 hDs hg8 hb78 eD
      go_wp2_with fail
      refine cS.mono ?_
      rintro e w9 ⟨rfl, hb9⟩
      have HB9 := Lib.hid (HB8.out.trans (hb9.mono HB8.out.size))
      have cS2 := S2.out w9 hb9
      have HB89 := Lib.hid hb9
      clear cS hb9 hW8
      go_wp2_with fail
      refine cS2.mono ?_
      rintro e w10 ⟨rfl, hb10⟩
      have HB10 := Lib.hid (HB9.out.trans (hb10.mono HB9.out.size))
      have cS3 := S3.out w10 (HB89.out.trans (hb10.mono HB89.out.size))
      clear cS2 hb10
      go_wp2_with fail
      refine cS3.mono ?_
      rintro e w11 ⟨rfl, hb11⟩
      have HB11 := Lib.hid (HB10.out.trans (hb11.mono HB10.out.size))
      clear cS3 hb11
      go_wp2
      go_ret
      exact ⟨rfl, HB11.out⟩
end Go.Proofs.YtnmacalbbmeedaaGreat
