/- Merges of a table of symbols. -/
import Derived.Test.YtgjailjnnbpbdaaSAdd
namespace Go.Proofs.Ytgjailjnnbpbdaa
open Go.RowKit Go.Maps

/-- What was joined, in its order. -/
def mergesOf (J : List Joint) : List (ByteArray × ByteArray) := J.map fun p => (txtOf J p.2.1, txtOf J p.2.2)
theorem merges_len (J : List Joint) : (mergesOf J).length = J.length := by simp [mergesOf]
/-- A row that is filled up to place k. -/
def filledE {α : Type} (z : α) (Z : List α) (k : Nat) : List α := Z.take k ++ List.replicate (Z.length - k) z
theorem filledE_len {α : Type} {z : α} {Z : List α} {k : Nat} (hk : k ≤ Z.length) : (filledE z Z k).length = Z.length := by
  unfold filledE; rw [List.length_append, List.length_take, List.length_replicate]; omega
theorem filledE_zero {α : Type} (z : α) (Z : List α) : filledE z Z 0 = List.replicate Z.length z := by simp [filledE]
theorem filledE_all {α : Type} (z : α) (Z : List α) : filledE z Z Z.length = Z := by simp [filledE]
theorem filledE_at {α : Type} {z : α} {Z : List α} {k : Nat} (hk : k < Z.length) (h : k < (filledE z Z k).length) : (filledE z Z k)[k] = z := by
  refine (List.getElem_append_right (show (Z.take k).length ≤ k by rw [List.length_take]; omega)).trans ?_
  rw [List.getElem_replicate]
theorem filledE_step {α : Type} {z : α} {Z : List α} {k : Nat} (hk : k < Z.length) : (filledE z Z k).set k Z[k] = filledE z Z (k + 1) := by
  unfold filledE
  rw [List.set_append_right _ _ (by rw [List.length_take]; omega), List.length_take, Nat.min_eq_left (by omega), Nat.sub_self, List.take_succ_eq_append_getElem hk, List.append_assoc]
  have e : Z.length - k = (Z.length - (k + 1)) + 1 := by omega
  rw [e, List.replicate_succ]
  rfl
def noMerge : ByteArray × ByteArray := (⟨#[]⟩, ⟨#[]⟩)
def MergesRel (J : List Joint) (w : World) (g : Nat) (i : Value) (wr : World) : Prop := ∃ k : Nat, i = .int .i64 (k : Int) ∧ k ≤ J.length ∧ rowE mergeE wr g (filledE noMerge (mergesOf J) k) ∧ Below w.heap.size w wr
/-- One text of two is laid. -/
theorem left_row {J : List Joint} {wr : World} {g k : Nat} {x : ByteArray} (hk : k < J.length) (h : rowE mergeE wr g (filledE noMerge (mergesOf J) k)) : rowE mergeE (wr.setCell ⟨g, k * 2, none⟩ (.string x)) g ((filledE noMerge (mergesOf J) k).set k (x, ⟨#[]⟩)) := by
  have hk1 : k < (mergesOf J).length := by rw [merges_len]; exact hk
  have hk2 : k < (filledE noMerge (mergesOf J) k).length := by rw [filledE_len (by omega)]; exact hk1
  refine h.store (i := 0) (x, ⟨#[]⟩) hk2 (by decide) ?_
  rw [filledE_at hk1]
  rfl
theorem right_row {J : List Joint} {wr : World} {g k : Nat} (hk : k < J.length) (h : rowE mergeE wr g ((filledE noMerge (mergesOf J) k).set k (txtOf J J[k].2.1, ⟨#[]⟩))) :
    rowE mergeE (wr.setCell ⟨g, k * 2 + 1, none⟩ (.string (txtOf J J[k].2.2))) g (filledE noMerge (mergesOf J) (k + 1)) := by
  have hk1 : k < (mergesOf J).length := by rw [merges_len]; exact hk
  have hk2 : k < (filledE noMerge (mergesOf J) k).length := by rw [filledE_len (by omega)]; exact hk1
  have := h.store (u := .string (txtOf J J[k].2.2)) (i := 1) (txtOf J J[k].2.1, txtOf J J[k].2.2) (by rw [List.length_set]; exact hk2) (by decide) (by rw [List.getElem_set_self]; rfl)
  rw [List.set_set] at this
  have e : (mergesOf J)[k] = (txtOf J J[k].2.1, txtOf J J[k].2.2) := by simp [mergesOf]
  rw [← filledE_step hk1, e]
  exact this
theorem row_cell {w : World} {g k : Nat} {L : List (ByteArray × ByteArray)} (h : rowE mergeE w g L) (hk : k < L.length) : (∃ u, w.cell? ⟨g, k * 2, none⟩ = some u) ∧ w.frozen? ⟨g, k * 2, none⟩ = false ∧ (∃ u, w.cell? ⟨g, k * 2 + 1, none⟩ = some u) ∧ w.frozen? ⟨g, k * 2 + 1, none⟩ = false := by
  have h0 := h.cells (i := 0) hk (by decide)
  have h1 := h.cells (i := 1) hk (by decide)
  exact ⟨⟨_, h0.1⟩, h0.2, ⟨_, h1.1⟩, h1.2⟩
/-- A joint laid apart, and read again behind what turns nothing that was there. -/
theorem jbox_at {wr w2 : World} {t : ByteArray} {p q : Int} (hb : Below (wr.alloc (.cells #[.string t, .int .i64 p, .int .i64 q] 59)).heap.size (wr.alloc (.cells #[.string t, .int .i64 p, .int .i64 q] 59)) w2) : w2.heap[wr.heap.size]? = some (.cells #[.string t, .int .i64 p, .int .i64 q] 59 (0, 0)) := by
  have hh := heap_alloc_new wr (.cells #[.string t, .int .i64 p, .int .i64 q] 59)
  exact (hb.block _ (Array.getElem?_eq_some_iff.1 hh).1).trans hh
set_option maxRecDepth 100000 in
set_option maxHeartbeats 2000000 in
theorem smerges_any (K : Nat) (v : Value) (b : Option Nat) (J : List Joint) (w : World) (h : Stab w K v b J) (hJ : J.length ≤ 900000) :
    Calls Try.prog 18 #[.pointer (some ⟨K, 0, none⟩)] w fun e w' => ∃ r, e = .returned r ∧ ownE mergeE w' w.heap.size r (mergesOf J) ∧ Below w.heap.size w w' := by
  have H := Lib.hid h
  obtain ⟨c0, _⟩ := h.cell
  obtain ⟨a, cap, rfl, _⟩ := h.row.form
  have hK := h.lt K (.inl rfl)
  clear h
  obtain ⟨i0, hi, hz0, hz1, hz2⟩ := info_parts mergeE.info
  have hz2' : i0.bytes = 32 := hz2
  go_enter Try.func18, Try.ntmps18
  go_wp2_with (at_make; refine wpList_make_full _ rfl _ _ 47 rfl w.heap.size 63 i0 mergeE.zero 2 Try.underlying47 hi hz0 hz1 .i64 .i64 _ _ J.length rfl rfl rfl rfl (by rw [hz2']; omega) (by unfold maxLen; omega) (Nat.le_refl _) ?_; intro w1 hown1 hgr1; have c1 : w1.cell? ⟨K, 0, none⟩ = some (.slice a J.length cap) := (World.cell?_of_block (hgr1.block K hK (by simp))).trans c0)
  have HR1 : Hid (rowE mergeE w1 w.heap.size (List.replicate J.length noMerge)) := Lib.hid (rowE_made mergeE noMerge rfl hown1)
  have HB1 : Hid (Below w.heap.size w w1) := Lib.hid ((Below.refl w.heap.size w).grown hgr1 (Nat.le_refl _) fun g hg => by cases hg)
  clear hown1 hgr1 hi hz0 hz1 hz2 hz2' c1 c0
  obtain ⟨g, hg⟩ : ∃ g, w.heap.size = g := ⟨_, rfl⟩
  have HG : Hid (w.heap.size = g) := Lib.hid hg
  rw [hg] at HR1 ⊢
  have hKg : K < g := by omega
  clear hg hK
  go_loopw [19] (fun i wr => MergesRel J w g i wr) (fun i _ => J.length + 1 - (intOf i).toNat)
  case atStart => exact ⟨0, rfl, by omega, by rw [filledE_zero, merges_len]; exact HR1.out, HB1.out⟩
  case round =>
    obtain ⟨k, rfl, hk, hr, hb⟩ := hrel
    have HB := Lib.hid hb; have HR := Lib.hid hr
    clear hb hr
    by_cases hgo : k < J.length
    · have hkI : (k : Int) < (J.length : Int) := by omega
      obtain ⟨ad, rfl⟩ := H.out.some hgo
      obtain ⟨x0, x1, x2⟩ := H.out.at HB.out hgo
      obtain ⟨g1, g2, _⟩ := H.out.good.each k hgo
      have hgw : g < wr.heap.size := HR.out.lt
      have HRL : Hid ((filledE noMerge (mergesOf J) k).length = J.length) := Lib.hid (by rw [filledE_len (by rw [merges_len]; omega), merges_len])
      obtain ⟨⟨t, p, q⟩, hp⟩ : ∃ p, J[k] = p := ⟨_, rfl⟩
      rw [hp] at x0 x1 x2 g1 g2
      have HP := Lib.hid hp
      clear hp
      simp only at x0 x1 x2 g1 g2
      have HBa : Hid (Below w.heap.size w (wr.alloc (.cells #[.string t, .int .i64 p, .int .i64 q] 59))) := Lib.hid (HB.out.alloc HB.out.size _)
      have cA := text_any K _ b J p _ (H.out.below HBa.out) (by omega) (by omega) (by omega)
      obtain ⟨x, hx⟩ : ∃ x, txtOf J p = x := ⟨_, rfl⟩
      obtain ⟨y, hy⟩ : ∃ y, txtOf J q = y := ⟨_, rfl⟩
      have HX := Lib.hid hx; have HY := Lib.hid hy
      have cC := fun w1 (hb : Below w.heap.size w w1) => text_any K _ b J q w1 (H.out.below hb) (by omega) (by omega) (by omega)
      rw [hx] at cA
      rw [hy] at cC
      clear hx hy
      generalize thereOf J p = tp at *
      generalize thereOf J q = tq at *
      go_wp2_with fail
      refine cA.mono ?_
      rintro e w2 ⟨rfl, hb2⟩
      have HB2 : Hid (Below w.heap.size w w2) := Lib.hid (HBa.out.trans (hb2.mono HBa.out.size))
      have hbox := jbox_at hb2
      have HR2 : Hid (rowE mergeE w2 g (filledE noMerge (mergesOf J) k)) := Lib.hid (HR.out.kept ((hb2.block g (by rw [World.size_alloc]; omega)).trans (Below.heap_alloc _ _ _ hgw)))
      clear hb2 cA x0 x1 x2
      obtain ⟨B, hB⟩ : ∃ B, wr.heap.size = B := ⟨_, rfl⟩
      rw [hB] at hbox hgw ⊢
      clear hB
      have HBox := Lib.hid hbox
      obtain ⟨y0, y1, y2⟩ := box_cells hbox
      obtain ⟨⟨u0, z0⟩, z1, ⟨u1, z2⟩, z3⟩ := row_cell HR2.out (k := k) (by rw [HRL.out]; exact hgo)
      have HR3 : Hid (rowE mergeE (w2.setCell ⟨g, k * 2, none⟩ (.string x)) g ((filledE noMerge (mergesOf J) k).set k (x, ⟨#[]⟩))) := Lib.hid (left_row hgo HR2.out)
      have HB3 : Hid (Below w.heap.size w (w2.setCell ⟨g, k * 2, none⟩ (.string x))) := Lib.hid (HB2.out.setCell (show w.heap.size ≤ g by rw [HG.out]; exact Nat.le_refl _) _)
      have cC := cC _ HB3.out
      clear hbox
      go_wp2_with fail
      refine cC.mono ?_
      rintro e w3 ⟨rfl, hb3⟩
      have HB4 : Hid (Below w.heap.size w w3) := Lib.hid (HB3.out.trans (hb3.mono HB3.out.size))
      have HR4 : Hid (rowE mergeE w3 g ((filledE noMerge (mergesOf J) k).set k (x, ⟨#[]⟩))) := Lib.hid (HR3.out.kept (hb3.block g HR3.out.lt))
      clear hb3 cC z0 z1 z2 z3 y0 y1 y2
      obtain ⟨_, _, ⟨u1, z2⟩, z3⟩ := row_cell HR4.out (k := k) (by rw [List.length_set, HRL.out]; exact hgo)
      have HST : Hid (MergesRel J w g (.int .i64 ((k : Int) + 1)) (w3.setCell ⟨g, k * 2 + 1, none⟩ (.string y))) := Lib.hid (by
        refine ⟨k + 1, by simp, hgo, ?_, HB4.out.setCell (show w.heap.size ≤ g by rw [HG.out]; exact Nat.le_refl _) _⟩
        have e1 : txtOf J J[k].2.1 = x := by rw [HP.out]; exact HX.out
        have e2 : txtOf J J[k].2.2 = y := by rw [HP.out]; exact HY.out
        have hr := HR4.out
        rw [← e1] at hr
        rw [← e2]
        exact right_row hgo hr)
      go_wp2
      go_roundw
      case rel => exact HST.out
      case measure => simp [intOf]; omega
    · have hkI : ¬ (k : Int) < (J.length : Int) := by omega
      obtain rfl : k = J.length := by omega
      have hr := HR.out
      rw [← merges_len J, filledE_all] at hr
      have HE := Lib.hid (hr.own (b := w.heap.size) (by rw [HG.out]; exact Nat.le_refl _) (by rw [merges_len]; unfold maxLen; omega))
      rw [merges_len] at HE
      clear hr
      go_wp2
      go_ret
      exact ⟨_, rfl, HE.out, HB.out⟩
end Go.Proofs.Ytgjailjnnbpbdaa
