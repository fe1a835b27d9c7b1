/- The document's own Ahead and Better. -/
import Derived.Test.YtbnekkcjkdghcaaRTab
import Derived.Test.YtbnekkcjkdghcaaLess
import Derived.Test.YtbnekkcjkdghcaaOrd
namespace Go.Proofs.Ytbnekkcjkdghcaa
open Go.RowKit Go.Maps

set_option maxRecDepth 100000 in
theorem Rtab.textsAt {w : World} {base K : Nat} {v p : Value} {J : List Joint} (h : Rtab w base K v p J) : ∃ g cap, w.cell? ⟨K, 0, none⟩ = some (.slice (some ⟨g, 0, none⟩) (256 + J.length) cap) ∧ ∀ i : Nat, i < 256 + J.length → w.cell? ⟨g, i, none⟩ = some (.string (txtOf J (i : Int))) := by
  obtain ⟨c0, _, _, _⟩ := rcell h.cells
  obtain ⟨a, cap, rfl, _⟩ := h.texts.form
  obtain ⟨g, rfl, _⟩ := ownE_some h.texts (by rw [texts_len]; omega)
  rw [texts_len] at c0
  refine ⟨g, cap, c0, fun i hi => ?_⟩
  have hi' : i < (textsOf J).length := by rw [texts_len]; exact hi
  have x := texts_cell h.texts.reads (Below.refl _ w) hi'
  have ex := txt_there (J := J) (id := (i : Int)) (by omega) (by simpa using hi')
  simp only [Int.toNat_natCast] at ex
  rw [add_zero_off, ← ex] at x
  exact x
set_option maxRecDepth 100000 in
set_option maxHeartbeats 1000000 in
theorem rtext_any (base K : Nat) (v p : Value) (J : List Joint) (id : Int) (w : World) (h : Rtab w base K v p J) (hJ : J.length ≤ 1000000) :
    Calls Try.prog 56 #[.pointer (some ⟨K, 0, none⟩), .int .i64 id] w fun e w' => e = .returned (.string (txtOf J id)) ∧ w' = w := by
  have cT := rthere_any base K v p J id w h
  cases ht : thereOf J id with
  | false =>
    rw [ht] at cT
    rw [txt_not ht]
    clear h ht
    go_enter Try.func56, Try.ntmps56
    go_wp2_with fail
    refine cT.mono ?_
    rintro e w1 ⟨rfl, rfl⟩
    go_wp2
    go_ret
    exact ⟨rfl, rfl⟩
  | true =>
    rw [ht] at cT
    obtain ⟨h0, h1⟩ := there_iff.1 ht
    rw [texts_len] at h1
    obtain ⟨k, rfl⟩ : ∃ k : Nat, id = (k : Int) := ⟨id.toNat, by omega⟩
    obtain ⟨g, cap, c0, hc⟩ := h.textsAt
    have c1 := hc k (by simpa using h1)
    obtain ⟨n, hn⟩ : ∃ n, 256 + J.length = n := ⟨_, rfl⟩
    rw [hn] at c0
    have hk : (k : Int) < (n : Int) := by rw [← hn]; omega
    clear h hc hn h1 h0 ht
    generalize txtOf J (k : Int) = t at *
    go_enter Try.func56, Try.ntmps56
    go_wp2_with fail
    refine cT.mono ?_
    rintro e w1 ⟨rfl, rfl⟩
    go_wp2
    go_ret
    exact ⟨rfl, rfl⟩
set_option maxRecDepth 100000 in
theorem ahead_other {J : List Joint} {p q r s : Int} (h : txtOf J p ≠ txtOf J r) : aheadOf J (p, q) (r, s) = ahead (txtOf J p) (txtOf J r) := by
  rw [Bool.eq_iff_iff, ahead_iff]
  constructor
  · rintro (k | ⟨k, _⟩)
    · exact k
    · exact absurd k h
  · exact .inl
set_option maxRecDepth 100000 in
theorem ahead_same {J : List Joint} {p q r s : Int} (h : txtOf J p = txtOf J r) : aheadOf J (p, q) (r, s) = ahead (txtOf J q) (txtOf J s) := by
  rw [Bool.eq_iff_iff, ahead_iff]
  constructor
  · rintro (k | ⟨_, k⟩)
    · simp only [h, ahead_irrefl] at k; cases k
    · exact k
  · exact fun k => .inr ⟨h, k⟩
set_option maxRecDepth 100000 in
set_option maxHeartbeats 2000000 in
theorem rahead_any (base K : Nat) (v u : Value) (J : List Joint) (p q r s : Int) (w : World) (h : Rtab w base K v u J) (hg : Good J) (hJ : J.length ≤ 1000000) :
    Calls Try.prog 46 #[.pointer (some ⟨K, 0, none⟩), .agg #[.int .i64 p, .int .i64 q], .agg #[.int .i64 r, .int .i64 s]] w fun e w' => e = .returned (.bool (aheadOf J (p, q) (r, s))) ∧ Grown w w' := by
  obtain ⟨wb, hwb⟩ : ∃ wb, wb = (w.alloc (.cells #[.int .i64 p, .int .i64 q] 41)).alloc (.cells #[.int .i64 r, .int .i64 s] 41) := ⟨_, rfl⟩
  have HGB : Hid (Grown w wb) := Lib.hid (by rw [hwb]; exact ((Grown.refl w).alloc _).alloc _)
  have HB := Lib.hid (h.below HGB.out.below)
  have x0 : wb.cell? ⟨w.heap.size, 0, none⟩ = some (.int .i64 p) := by rw [hwb]; simp
  have x1 : wb.cell? ⟨w.heap.size, 1, none⟩ = some (.int .i64 q) := by rw [hwb]; simp
  have y0 : wb.cell? ⟨w.heap.size + 1, 0, none⟩ = some (.int .i64 r) := by rw [hwb]; simp
  have y1 : wb.cell? ⟨w.heap.size + 1, 1, none⟩ = some (.int .i64 s) := by rw [hwb]; simp
  have cL := fun m (a b : Int) => ltext_any (txtOf J a) (txtOf J b) m (by have := txt_le hg a; omega) (by have := txt_le hg b; omega)
  have hw' := hwb.symm
  have CL := Lib.hid cL
  clear h hwb cL
  by_cases hc : txtOf J p = txtOf J r
  · rw [ahead_same hc]
    have cl := fun m => CL.out (wb.drewN m) q s
    have ct : ∀ m id, Calls Try.prog 56 #[.pointer (some ⟨K, 0, none⟩), .int .i64 id] (wb.drewN m) fun e w' => e = .returned (.string (txtOf J id)) ∧ w' = wb.drewN m := fun m id => rtext_any base K v u J id _ (HB.out.drewN m) hJ
    have HC := Lib.hid hc
    clear hc
    go_enter Try.func46, Try.ntmps46
    go_wp2_with fail
    go_quiet ((go_at_call 56; exact Calls.quiet_of_same (ct _ _)))
    rw [HC.out]
    have HG2 : Hid (Grown w (wb.drewN nq)) := Lib.hid (HGB.out.drewN nq)
    have HB2 := Lib.hid (HB.out.drewN nq)
    have z1 : (wb.drewN nq).cell? ⟨w.heap.size, 1, none⟩ = some (.int .i64 q) := x1
    have z2 : (wb.drewN nq).cell? ⟨w.heap.size + 1, 1, none⟩ = some (.int .i64 s) := y1
    clear x0 x1 y0 y1 ct cl hw' HB
    generalize wb.drewN nq = wz at *
    have cl := fun m => CL.out (wz.drewN m) q s
    have ct : ∀ m id, Calls Try.prog 56 #[.pointer (some ⟨K, 0, none⟩), .int .i64 id] (wz.drewN m) fun e w' => e = .returned (.string (txtOf J id)) ∧ w' = wz.drewN m := fun m id => rtext_any base K v u J id _ (HB2.out.drewN m) hJ
    go_wp2_with fail
    go_quiet (first | (go_at_call 56; exact Calls.quiet_of_same (ct _ _)) | (go_at_call 57; exact Calls.quiet_of (cl _)))
    go_wp2
    go_ret
    exact ⟨rfl, HG2.out.drewN _⟩
  · rw [ahead_other hc]
    have hne := text_ne hc
    have ct : ∀ m id, Calls Try.prog 56 #[.pointer (some ⟨K, 0, none⟩), .int .i64 id] (wb.drewN m) fun e w' => e = .returned (.string (txtOf J id)) ∧ w' = wb.drewN m := fun m id => rtext_any base K v u J id _ (HB.out.drewN m) hJ
    clear hc
    go_enter Try.func46, Try.ntmps46
    go_wp2_with fail
    go_quiet ((go_at_call 56; exact Calls.quiet_of_same (ct _ _)))
    have HG2 : Hid (Grown w (wb.drewN nq)) := Lib.hid (HGB.out.drewN nq)
    clear x0 x1 y0 y1 ct hw' HB
    generalize wb.drewN nq = wz at *
    have cl := CL.out wz p r
    go_wp2_with fail
    refine cl.mono ?_
    rintro e w1 ⟨rfl, n, rfl⟩
    go_wp2
    go_ret
    exact ⟨rfl, HG2.out.drewN _⟩
set_option maxRecDepth 100000 in
theorem better_count {J : List Joint} {p q n r s m : Int} (h : m < n) : betterOf J (p, q, n) (r, s, m) = true := better_iff.2 (.inl h)
set_option maxRecDepth 100000 in
theorem better_less {J : List Joint} {p q n r s m : Int} (h : n < m) : betterOf J (p, q, n) (r, s, m) = false := by
  rw [Bool.eq_false_iff, ne_eq, better_iff]
  rintro (k | ⟨k, _⟩) <;> simp only at k <;> omega
set_option maxRecDepth 100000 in
theorem better_pair {J : List Joint} {p q n r s m : Int} (h : n = m) : betterOf J (p, q, n) (r, s, m) = aheadOf J (p, q) (r, s) := by
  rw [Bool.eq_iff_iff, better_iff, ahead_iff]
  constructor
  · rintro (k | ⟨_, k⟩)
    · simp only at k; omega
    · exact k
  · exact fun k => .inr ⟨h, k⟩
set_option maxRecDepth 100000 in
set_option maxHeartbeats 2000000 in
theorem rbetter_any (base K : Nat) (v u : Value) (J : List Joint) (p q n r s m : Int) (w : World) (h : Rtab w base K v u J) (hg : Good J) (hJ : J.length ≤ 1000000) :
    Calls Try.prog 35 #[.pointer (some ⟨K, 0, none⟩), .agg #[.int .i64 p, .int .i64 q], .int .i64 n, .agg #[.int .i64 r, .int .i64 s], .int .i64 m] w fun e w' => e = .returned (.bool (betterOf J (p, q, n) (r, s, m))) ∧ Grown w w' := by
  have HGB : Hid (Grown w ((w.alloc (.cells #[.int .i64 p, .int .i64 q] 41)).alloc (.cells #[.int .i64 r, .int .i64 s] 41))) := Lib.hid (((Grown.refl w).alloc _).alloc _)
  have cA := rahead_any base K v u J p q r s _ (h.below HGB.out.below) hg hJ
  clear h
  by_cases h1 : m < n
  · rw [better_count h1]
    clear cA
    go_enter Try.func35, Try.ntmps35
    go_wp2
    go_ret
    exact ⟨rfl, HGB.out⟩
  · by_cases h2 : n < m
    · rw [better_less h2]
      have h3 : (n == m) = false := beq_eq_false_iff_ne.2 (by omega)
      clear cA
      go_enter Try.func35, Try.ntmps35
      go_wp2
      go_ret
      exact ⟨rfl, HGB.out⟩
    · have h3 : n = m := by omega
      rw [better_pair h3]
      subst h3
      generalize aheadOf J (p, q) (r, s) = f at *
      go_enter Try.func35, Try.ntmps35
      go_wp2_with fail
      refine cA.mono ?_
      rintro e w1 ⟨rfl, hg1⟩
      have HG1 := Lib.hid hg1
      clear hg1
      go_wp2
      go_ret
      exact ⟨rfl, HGB.out.trans HG1.out⟩
end Go.Proofs.Ytbnekkcjkdghcaa
