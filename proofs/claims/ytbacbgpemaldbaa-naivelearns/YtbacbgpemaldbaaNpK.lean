/- A table's words and counts: the program's begin, walked. -/
import Derived.Test.YtbacbgpemaldbaaNpI
import Derived.Test.YtbacbgpemaldbaaIntE
import Derived.Test.YtbacbgpemaldbaaWRow
namespace Go.Proofs.Ytbacbgpemaldbaa
open Go.RowKit

def BgRel (L : Bag) (w : World) (g gc : Nat) (x : Value) (wr : World) : Prop :=
  ∃ k : Nat, x = .int .i64 (k : Int) ∧ k ≤ L.length ∧ rowsG wr w.heap.size g (npfill [] (startW L) k) ∧ rowE intE wr gc (npfill 0 (countsOf L) k) ∧ Below w.heap.size w wr
def BgRet (L : Bag) (w : World) (e : Ending) (w' : World) : Prop :=
  ∃ g gc, e = .returned (.tuple #[.slice (some ⟨g, 0, none⟩) L.length L.length, .slice (some ⟨gc, 0, none⟩) L.length L.length]) ∧ rowsG w' w.heap.size g (startW L) ∧ rowE intE w' gc (countsOf L) ∧ w.heap.size ≤ gc ∧ Below w.heap.size w w'
set_option maxRecDepth 100000 in
theorem rowsG_zeros {w : World} {g n : Nat} (h : rowE slTE w g (List.replicate n (none, 0, 0))) (base : Nat) (hb : base ≤ g) : rowsG w base g (List.replicate n []) := by
  refine ⟨hb, _, by simp, h, fun i a b => ?_⟩
  simp only [List.getElem_replicate]
  exact ownE.nil _ _
set_option maxRecDepth 100000 in
/-- A number is laid: the rows of texts stay. -/
theorem rowsG.number {w : World} {base g gc : Nat} {WW : List (List ByteArray)} {C : List Int} (h : rowsG w base g WW) (hc : rowE intE w gc C) (j : Nat) (u : Value) : rowsG (w.setCell ⟨gc, j, none⟩ u) base g WW := by
  obtain ⟨cs, hcc, _⟩ := hc
  exact h.kept fun i c t hi ht => Below.heap_setCell _ ⟨gc, j, none⟩ _ i fun e => by
    rw [show i = gc from e, hcc] at hi
    injection hi with hi
    injection hi with _ hi
    rcases ht with ht | ht <;> exact absurd (hi.trans ht) (by decide)
set_option maxRecDepth 100000 in
/-- A row of texts is laid: the numbers stay. -/
theorem rowE.rows {w : World} {base g gc : Nat} {WW : List (List ByteArray)} {C : List Int} (hc : rowE intE w gc C) (h : rowsG w base g WW) (j : Nat) (u : Value) : rowE intE (w.setCell ⟨g, j, none⟩ u) gc C := by
  obtain ⟨_, E, _, ⟨cs, hcc, _⟩, _⟩ := h
  obtain ⟨c2, hc2, _⟩ := id hc
  exact hc.kept (Below.heap_setCell _ ⟨g, j, none⟩ _ gc fun e => by
    rw [show gc = g from e, hcc] at hc2
    injection hc2 with hc2
    injection hc2 with _ hc2
    exact absurd hc2 (by decide))
set_option maxRecDepth 100000 in
theorem two_cells2 {W : World} {k : Nat} {p q : Value} {t : TypeId} (h : W.heap[k]? = some (.cells #[p, q] t (0, 0))) : W.cell? ⟨k, 0, none⟩ = some p ∧ W.cell? ⟨k, 1, none⟩ = some q :=
  ⟨by rw [cell_of_row W k _ _ t (0, 0) h]; rfl, by rw [cell_of_row W k _ _ t (0, 0) h]; rfl⟩
set_option maxRecDepth 100000 in
theorem size_in {L : Bag} {s : ByteArray} {c : Int} (h : (s, c) ∈ L) : s.size ≤ bytesOf L := by
  induction L with
  | nil => simp at h
  | cons q r ih =>
    have e : bytesOf (q :: r) = q.1.size + bytesOf r := by simp [bytesOf]
    rw [e]
    rcases List.mem_cons.1 h with h | h
    · rw [← h]; exact Nat.le_add_right _ _
    · have := ih h; omega
set_option maxRecDepth 100000 in
set_option maxHeartbeats 8000000 in
theorem begin_any (x : Value) (L : Bag) (w : World) (hx : wordsAt w x L) (hL : L.length ≤ 1000000) (hb : bytesOf L ≤ 500000) :
    Calls Try.prog 20 #[x] w fun e w' => BgRet L w e w' := by
  obtain ⟨a, cap, rfl, _⟩ := id hx
  obtain ⟨N, hN⟩ : ∃ N, L.length = N := ⟨_, rfl⟩
  rw [hN] at hx ⊢
  obtain ⟨i0, hi, hz0, hz1, hz2⟩ := info_parts slTE.info
  have hz2' : i0.bytes = 24 := hz2
  obtain ⟨j0, hj, hy0, hy1, hy2⟩ := info_parts intE.info
  have hy2' : j0.bytes = 8 := hy2
  have HX := Lib.hid hx
  have HN := Lib.hid hN
  have HBY := Lib.hid hb
  have hNl : N ≤ 1000000 := by omega
  clear hx hN hb hL
  go_enter Try.func20, Try.ntmps20
  go_wp2_with (first
    | (at_make; refine wpList_make_full _ rfl _ _ 30 rfl w.heap.size 34 i0 slTE.zero 1 Try.underlying30 hi hz0 hz1 .i64 .i64 _ _ N rfl rfl rfl rfl (by rw [hz2']; omega) (by unfold maxLen; omega) (Nat.le_refl _) ?_; intro w1 hown1 hgr1)
    | (at_make; refine wpList_make_full _ rfl _ _ 31 rfl w1.heap.size 3 j0 intE.zero 1 Try.underlying31 hj hy0 hy1 .i64 .i64 _ _ N rfl rfl rfl rfl (by rw [hy2']; omega) (by unfold maxLen; omega) (Nat.le_refl _) ?_; intro w2 hown2 hgr2))
  have hr1 := rowE_made slTE (none, 0, 0) rfl hown1
  have HR2 : Hid (rowE intE w2 w1.heap.size (List.replicate N 0)) := Lib.hid (rowE_made intE 0 rfl hown2)
  have hB1 : Below w.heap.size w w1 := (Below.refl w.heap.size w).grown hgr1 (Nat.le_refl _) fun g hg => by cases hg
  have HB2 : Hid (Below w.heap.size w w2) := Lib.hid (hB1.grown hgr2 hB1.size fun g hg => by cases hg)
  have HR1 : Hid (rowsG w2 w.heap.size w.heap.size (List.replicate N [])) := Lib.hid (rowsG_zeros (hr1.kept (hgr2.block _ hr1.lt (by simp))) _ (Nat.le_refl _))
  have HGC : Hid (w.heap.size ≤ w1.heap.size) := Lib.hid hB1.size
  clear hown1 hgr1 hi hz0 hz1 hz2 hz2' hown2 hgr2 hj hy0 hy1 hy2 hy2' hr1 hB1
  obtain ⟨g, hg⟩ : ∃ g, w.heap.size = g := ⟨_, rfl⟩
  obtain ⟨gc, hgc⟩ : ∃ g, w1.heap.size = g := ⟨_, rfl⟩
  have HG : Hid (w.heap.size = g) := Lib.hid hg
  rw [hgc] at HR2 HGC ⊢
  have HST : Hid (BgRel L w g gc (.int .i64 ((0 : Nat) : Int)) w2) := Lib.hid ⟨0, rfl, Nat.zero_le _, by rw [npfill_zero, startW_len, HN.out, ← HG.out]; exact HR1.out, by rw [npfill_zero, counts_len, HN.out]; exact HR2.out, HB2.out⟩
  rw [hg]
  clear hg hgc HR1 HR2 HB2
  go_loopw [16] (fun x wr => BgRel L w g gc x wr) (fun x _ => N - (intOf x).toNat)
  case atStart => exact HST.out
  case round =>
    clear HST
    obtain ⟨k, rfl, hk, hr, hc, hbel⟩ := hrel
    rw [HN.out] at hk
    have HR := Lib.hid hr; have HC := Lib.hid hc; have HB := Lib.hid hbel
    clear hr hc hbel
    by_cases hgo : k < N
    · have hgoI : (k : Int) < (N : Int) := by omega
      have hkL : k < L.length := by rw [HN.out]; exact hgo
      have hwk : IntKind.i64.wrap ((k : Int) + 1) = (k : Int) + 1 := IntWalk.i64_in _ (by omega)
      obtain ⟨ad, rfl⟩ : ∃ ad, a = some ad := by
        obtain ⟨_, _, e1, hc⟩ := HX.out
        obtain ⟨ad, e2, _⟩ := hc k hkL
        exact ⟨ad, (Value.slice.inj e1).1.trans e2⟩
      have hX := HX.out
      rw [← HN.out] at hX
      obtain ⟨t0, t1⟩ := words_at hX HB.out hkL
      obtain ⟨⟨s, c⟩, hsc⟩ : ∃ p, L[k] = p := ⟨_, rfl⟩
      rw [hsc] at t0 t1
      simp only at t0 t1
      have hss : s.size ≤ 1000000 := by
        have := size_in (L := L) (s := s) (c := c) (by rw [← hsc]; exact List.getElem_mem _)
        have := HBY.out
        omega
      obtain ⟨B, hBq⟩ : ∃ B, wr.heap.size = B := ⟨_, rfl⟩
      obtain ⟨wa, hwa⟩ : ∃ wa, wr.alloc (.cells #[.string s, .int .i64 c] 42) = wa := ⟨_, rfl⟩
      have hba : wa.heap[B]? = some (.cells #[.string s, .int .i64 c] 42 (0, 0)) := by rw [← hwa, ← hBq]; exact heap_alloc_new _ _
      have hbe : Below wr.heap.size wr wa := by rw [← hwa]; exact (Below.refl _ wr).alloc (Nat.le_refl _) _
      obtain ⟨b0, b1⟩ := two_cells2 hba
      have cT := bytesOf_any s wa hss
      have HR2 := Lib.hid (HR.out.below hbe)
      have HC2 := Lib.hid (HC.out.kept (hbe.block gc HC.out.lt))
      have HB2 := Lib.hid (HB.out.trans (hbe.mono HB.out.size))
      have HBA := Lib.hid hba
      have HSC := Lib.hid hsc
      clear hX hsc hba hbe
      go_wp2_with fail
      refine cT.mono ?_
      rintro e w3 ⟨v, rfl, hv, hb3⟩
      obtain ⟨ra, rc, rfl, _⟩ := hv.form
      have HR3 := HR2.out.below hb3
      have HC3 := HC2.out.kept (hb3.block gc HC2.out.lt)
      have hB3 := HB2.out.trans (hb3.mono HB2.out.size)
      have hbox := (hb3.block B (Array.getElem?_eq_some_iff.1 HBA.out).1).trans HBA.out
      have hkr : k < (npfill [] (startW L) k).length := by rw [npfill_len (by rw [startW_len]; omega), startW_len]; exact hkL
      have hkc : k < (npfill 0 (countsOf L) k).length := by rw [npfill_len (by rw [counts_len]; omega), counts_len]; exact hkL
      obtain ⟨⟨y0, hy0⟩, f0⟩ := HR3.cell hkr
      have hvb := hv.mono (b' := w.heap.size) HB2.out.size
      have HR4 := HR3.put hkr hvb
      have HC4 := HC3.rows HR3 k (.slice ra (bytesT s).length rc)
      have hB4 : Below w.heap.size w (w3.setCell ⟨g, k, none⟩ (.slice ra (bytesT s).length rc)) := hB3.setCell (p := ⟨g, k, none⟩) (show w.heap.size ≤ g by rw [HG.out]; exact Nat.le_refl _) _
      obtain ⟨z0, f1⟩ := HC4.cell (j := k) (u := .int .i64 0) hkc rfl (by rw [npfill_at (by rw [counts_len]; exact hkL)]; rfl)
      have hneB : B ≠ g := fun e => by
        obtain ⟨_, E, _, ⟨cs, hcc, _⟩, _⟩ := HR3
        rw [← e, hbox] at hcc
        injection hcc with hcc
        injection hcc with _ hcc
        exact absurd hcc (by decide)
      obtain ⟨x0, x1⟩ := two_cells2 hbox
      obtain ⟨q0, q1⟩ := two_cells2 ((Below.heap_setCell w3 ⟨g, k, none⟩ (.slice ra (bytesT s).length rc) B hneB).trans hbox)
      have HST : Hid (BgRel L w g gc (.int .i64 ((k : Int) + 1)) ((w3.setCell ⟨g, k, none⟩ (.slice ra (bytesT s).length rc)).setCell ⟨gc, k, none⟩ (.int .i64 c))) := Lib.hid ⟨k + 1, by simp, by rw [HN.out]; exact hgo, by
        have e : (startW L)[k]'(by rw [startW_len]; exact hkL) = bytesT s := by simp [startW, HSC.out]
        rw [← npfill_step (by rw [startW_len]; exact hkL), e]
        exact HR4.number HC4 _ _, by
        have e : (countsOf L)[k]'(by rw [counts_len]; exact hkL) = c := by simp [countsOf, HSC.out]
        rw [← npfill_step (by rw [counts_len]; exact hkL), e]
        exact HC4.put _ hkc rfl rfl, hB4.setCell (p := ⟨gc, k, none⟩) HGC.out _⟩
      clear cT HR3 HC3 hB3 hbox hvb HR4 HC4 hB4 hneB hv hb3 b0 b1 t0 t1 hwa hBq
      go_wp2
      go_roundw
      case rel => exact HST.out
      case measure => simp [intOf]; omega
    · have hgoI : ¬ (k : Int) < (N : Int) := by omega
      obtain rfl : k = N := by omega
      have hr := HR.out
      have hc := HC.out
      rw [show npfill [] (startW L) k = startW L by rw [← HN.out, ← startW_len L, npfill_all]] at hr
      rw [show npfill 0 (countsOf L) k = countsOf L by rw [← HN.out, ← counts_len L, npfill_all]] at hc
      have HR2 := Lib.hid hr; have HC2 := Lib.hid hc
      clear hr hc
      go_wp2
      go_ret2
      exact ⟨g, gc, by rw [HN.out]; rfl, HR2.out, HC2.out, HGC.out, HB.out⟩
end Go.Proofs.Ytbacbgpemaldbaa
