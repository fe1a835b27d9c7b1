/- Couples compared: cmp.Compare of texts, slices.Compare of two texts each, ahead. -/
import Derived.Test.YtbacbgpemaldbaaNvR
import Derived.Test.YtbacbgpemaldbaaTab
import Derived.Test.YtbacbgpemaldbaaSame
import Derived.BigQuiet
namespace Go.Proofs.Ytbacbgpemaldbaa
open Go.RowKit

def scmp (a b : ByteArray) : Int := if ahead a b = true then -1 else if ahead b a = true then 1 else 0
def mcmp (a b : Mg) : Int := if scmp a.1 b.1 = 0 then scmp a.2 b.2 else scmp a.1 b.1
set_option maxRecDepth 100000 in
theorem scmp_less {a b : ByteArray} (h : ahead a b = true) : scmp a b = -1 := if_pos h
set_option maxRecDepth 100000 in
theorem scmp_more {a b : ByteArray} (h : ahead b a = true) : scmp a b = 1 := by
  unfold scmp
  rw [if_neg (by rw [ahead_asymm h]; simp), if_pos h]
set_option maxRecDepth 100000 in
theorem scmp_self (a : ByteArray) : scmp a a = 0 := by
  unfold scmp
  rw [if_neg (by rw [ahead_irrefl]; simp), if_neg (by rw [ahead_irrefl]; simp)]
set_option maxRecDepth 100000 in
theorem mcmp_neg (a b : Mg) : decide (mcmp a b < 0) = aheadM a b := by
  unfold mcmp
  by_cases e : a.1 = b.1
  · rw [e, scmp_self, if_pos rfl]
    have h1 : aheadM a b = ahead a.2 b.2 := by unfold aheadM; rw [e, ahead_irrefl]; simp
    rw [h1]
    by_cases e2 : a.2 = b.2
    · rw [e2, scmp_self, ahead_irrefl]; rfl
    · rcases ahead_total e2 with h | h
      · rw [scmp_less h, h]; rfl
      · rw [scmp_more h, ahead_asymm h]; rfl
  · have h1 : aheadM a b = ahead a.1 b.1 := by unfold aheadM; rw [decide_eq_false e]; simp
    rw [h1]
    rcases ahead_total e with h | h
    · rw [scmp_less h, h]; rfl
    · rw [scmp_more h, ahead_asymm h]; rfl
set_option maxRecDepth 100000 in
theorem sNaN_any (a : ByteArray) (w : World) : Calls Try.prog 39 #[.string a] w fun e w' => e = .returned (.bool false) ∧ w' = w := by
  go_enter Try.func39, Try.ntmps39
  go_wp2
  go_ret
  exact ⟨by simp, rfl⟩
set_option maxRecDepth 100000 in
theorem run_gtr9 (a b : ByteArray) (w : World) : (binOp .gtr 9 (.string a) (.string b)).run Try.prog w = .ok (.bool (!(Op.bytesLess a.toList b.toList || a.toList == b.toList))) w := by kernel_rfl
set_option maxRecDepth 100000 in
set_option maxHeartbeats 1000000 in
theorem scmp_any (a b : ByteArray) (w : World) : Calls Try.prog 36 #[.string a, .string b] w fun e w' => e = .returned (.int .i64 (scmp a b)) ∧ w' = w := by
  have c1 := sNaN_any a w
  have c2 := sNaN_any b w
  have hl := op_less a b
  have hg := run_gtr9 a b w
  by_cases h1 : ahead a b = true
  · rw [h1] at hl
    rw [scmp_less h1]
    clear hg h1
    go_enter Try.func36, Try.ntmps36
    go_wp2_with (first | (refine c1.mono ?_; rintro e w1 ⟨rfl, rfl⟩) | (refine c2.mono ?_; rintro e w1 ⟨rfl, rfl⟩))
    go_ret
    exact ⟨rfl, rfl⟩
  · have h1' : ahead a b = false := by simpa using h1
    by_cases e : a = b
    · subst e
      rw [h1'] at hl
      rw [op_less, h1'] at hg
      simp only [beq_self_eq_true, Bool.or_true, Bool.not_true] at hg
      rw [scmp_self]
      clear h1 h1' c2
      go_enter Try.func36, Try.ntmps36
      go_wp2_with (first | (refine c1.mono ?_; rintro e w1 ⟨rfl, rfl⟩))
      go_ret
      exact ⟨rfl, rfl⟩
    · have h2 : ahead b a = true := (ahead_total e).resolve_left h1
      rw [h1'] at hl
      rw [op_less, h1', text_ne e] at hg
      rw [scmp_more h2]
      simp only [Bool.or_self, Bool.not_false] at hg
      clear h1 h1' h2 e
      go_enter Try.func36, Try.ntmps36
      go_wp2_with (first | (refine c1.mono ?_; rintro e w1 ⟨rfl, rfl⟩) | (refine c2.mono ?_; rintro e w1 ⟨rfl, rfl⟩))
      go_ret
      exact ⟨rfl, rfl⟩
/-! slices.Compare of two texts each. -/
def SxRel (a b : Mg) (w : World) (i : Value) (wr : World) : Prop := ∃ k : Nat, i = .int .i64 (k : Int) ∧ k ≤ 2 ∧ wr = w ∧ (1 ≤ k → scmp a.1 b.1 = 0) ∧ (2 ≤ k → scmp a.2 b.2 = 0)
set_option maxRecDepth 100000 in
set_option maxHeartbeats 2000000 in
theorem sxcmp_any (x y : Value) (a b : Mg) (w : World) (hx : eltsAt textE w x [a.1, a.2]) (hy : eltsAt textE w y [b.1, b.2]) :
    Calls Try.prog 31 #[x, y] w fun e w' => e = .returned (.int .i64 (mcmp a b)) ∧ w' = w := by
  obtain ⟨a1, a2⟩ := a
  obtain ⟨b1, b2⟩ := b
  obtain ⟨ax, cx, rfl, hcx⟩ := id hx
  obtain ⟨ay, cy, rfl, hcy⟩ := id hy
  obtain ⟨ad, rfl, _⟩ := hcx 0 (by simp)
  obtain ⟨ae, rfl, _⟩ := hcy 0 (by simp)
  have x0 := txt_cell hx (Below.refl _ w) (k := 0) (by simp)
  have x1 := txt_cell hx (Below.refl _ w) (k := 1) (by simp)
  have y0 := txt_cell hy (Below.refl _ w) (k := 0) (by simp)
  have y1 := txt_cell hy (Below.refl _ w) (k := 1) (by simp)
  simp only [List.getElem_cons_zero, List.getElem_cons_succ] at x0 x1 y0 y1
  replace x0 : w.cell? ad = some (.string a1) := x0
  replace y0 : w.cell? ae = some (.string b1) := y0
  replace x1 : w.cell? ⟨ad.block, ad.off + 1, none⟩ = some (.string a2) := x1
  replace y1 : w.cell? ⟨ae.block, ae.off + 1, none⟩ = some (.string b2) := y1
  have c1 := scmp_any a1 b1 w
  have c2 := scmp_any a2 b2 w
  clear hcx hcy hx hy
  show Calls Try.prog 31 #[.slice (some ad) 2 cx, .slice (some ae) 2 cy] w _
  go_enter Try.func31, Try.ntmps31
  go_wp2
  go_loopw [11] (fun i wr => SxRel (a1, a2) (b1, b2) w i wr) (fun i _ => 3 - (intOf i).toNat)
  case atStart => exact ⟨0, rfl, by omega, rfl, fun h => by omega, fun h => by omega⟩
  case round =>
    obtain ⟨k, rfl, hk, hw, h1, h2⟩ := hrel
    obtain rfl := hw.symm
    have H1 := Lib.hid h1; have H2 := Lib.hid h2
    clear h1 h2 hw
    obtain rfl | rfl | rfl : k = 0 ∨ k = 1 ∨ k = 2 := by omega
    · by_cases hz : scmp a1 b1 = 0
      · have HZ := Lib.hid hz
        rw [hz] at c1
        clear hz
        go_wp2_with (refine c1.mono ?_; rintro e w1 ⟨rfl, rfl⟩)
        go_roundw
        case rel => exact ⟨1, by simp, by omega, rfl, fun _ => HZ.out, fun h => by omega⟩
        case measure => simp [intOf]
      · have HR : Hid (mcmp (a1, a2) (b1, b2) = scmp a1 b1) := Lib.hid (if_neg hz)
        obtain ⟨z, hzz⟩ : ∃ z, scmp a1 b1 = z := ⟨_, rfl⟩
        rw [hzz] at c1 HR hz
        clear hzz
        go_wp2_with (refine c1.mono ?_; rintro e w1 ⟨rfl, rfl⟩)
        go_ret
        rw [HR.out]
        exact ⟨rfl, rfl⟩
    · have HR : Hid (mcmp (a1, a2) (b1, b2) = scmp a2 b2) := Lib.hid (if_pos (H1.out (by omega)))
      by_cases hz : scmp a2 b2 = 0
      · have HZ := Lib.hid hz
        rw [hz] at c2
        clear hz
        go_wp2_with (refine c2.mono ?_; rintro e w1 ⟨rfl, rfl⟩)
        go_roundw
        case rel => exact ⟨2, by simp, by omega, rfl, fun _ => H1.out (by omega), fun _ => HZ.out⟩
        case measure => simp [intOf]
      · obtain ⟨z, hzz⟩ : ∃ z, scmp a2 b2 = z := ⟨_, rfl⟩
        rw [hzz] at c2 HR hz
        clear hzz
        go_wp2_with (refine c2.mono ?_; rintro e w1 ⟨rfl, rfl⟩)
        go_ret
        rw [HR.out]
        exact ⟨rfl, rfl⟩
    · have HR : Hid (mcmp (a1, a2) (b1, b2) = 0) := Lib.hid ((if_pos (H1.out (by omega))).trans (H2.out (by omega)))
      go_wp2
      go_ret
      rw [HR.out]
      exact ⟨rfl, rfl⟩
/-! ahead. -/
set_option maxRecDepth 100000 in
theorem couple_elts {W : World} {k : Nat} {a : Mg} (h : W.heap[k]? = some (.cells #[.string a.1, .string a.2] 54 (0, 0))) : eltsAt textE W (.slice (some ⟨k, 0, none⟩) 2 2) [a.1, a.2] := by
  refine ⟨_, 2, rfl, fun j hj => ⟨_, rfl, (Array.getElem?_eq_some_iff.1 h).1, fun i u hu => ?_⟩⟩
  simp only [List.length_cons, List.length_nil] at hj
  match i, hu with
  | 0, hu =>
    obtain rfl | rfl : j = 0 ∨ j = 1 := by omega
    · simp only [textE, List.getElem_cons_zero, List.getElem?_cons_zero, Option.some.injEq] at hu
      rw [← hu]
      exact (cell_of_row W k 0 _ _ (0, 0) h).trans rfl
    · simp only [textE, List.getElem_cons_succ, List.getElem_cons_zero, List.getElem?_cons_zero, Option.some.injEq] at hu
      rw [← hu]
      exact (cell_of_row W k 1 _ _ (0, 0) h).trans rfl
  | i + 1, hu => simp [textE] at hu
set_option maxRecDepth 100000 in
set_option maxHeartbeats 2000000 in
theorem ahead_any (a b : Mg) (w : World) : Calls Try.prog 24 #[.agg #[.string a.1, .string a.2], .agg #[.string b.1, .string b.2]] w fun e w' => e = .returned (.bool (aheadM a b)) ∧ Below w.heap.size w w' := by
  obtain ⟨a1, a2⟩ := a
  obtain ⟨b1, b2⟩ := b
  obtain ⟨w1, hw1⟩ : ∃ w1, (w.alloc (.cells #[.string a1, .string a2] 54)).alloc (.cells #[.string b1, .string b2] 54) = w1 := ⟨_, rfl⟩
  have hs1 : (w.alloc (.cells #[.string a1, .string a2] 54)).heap.size = w.heap.size + 1 := World.size_alloc _ _
  have ha : w1.heap[w.heap.size]? = some (.cells #[.string a1, .string a2] 54 (0, 0)) := by
    rw [← hw1, Below.heap_alloc _ _ _ (by rw [hs1]; omega)]
    exact heap_alloc_new w _
  have hb : w1.heap[w.heap.size + 1]? = some (.cells #[.string b1, .string b2] 54 (0, 0)) := by
    rw [← hw1, ← hs1]
    exact heap_alloc_new _ _
  have HB : Hid (Below w.heap.size w w1) := Lib.hid (by rw [← hw1]; exact ((Below.refl _ w).alloc (Nat.le_refl _) _).alloc (by rw [hs1]; omega) _)
  have cX := fun m => sxcmp_any (.slice (some ⟨w.heap.size, 0, none⟩) 2 2) (.slice (some ⟨w.heap.size + 1, 0, none⟩) 2 2) (a1, a2) (b1, b2) (w1.drewN m) (couple_elts ha) (couple_elts hb)
  have HM := Lib.hid (mcmp_neg (a1, a2) (b1, b2))
  obtain ⟨z, hz⟩ : ∃ z, mcmp (a1, a2) (b1, b2) = z := ⟨_, rfl⟩
  rw [hz] at cX HM
  clear ha hb hs1 hz
  go_enter Try.func24, Try.ntmps24
  go_wp2_with fail
  go_quiet ((go_at_call 31; exact Calls.quiet_of_same (cX _)))
  go_wp2
  go_ret
  rw [← HM.out]
  exact ⟨rfl, below_drewN' HB.out _⟩
end Go.Proofs.Ytbacbgpemaldbaa
