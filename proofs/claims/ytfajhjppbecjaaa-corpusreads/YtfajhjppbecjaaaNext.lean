/- The contracts of Script.Next, Script.Size and Plain.Next. -/
import Derived.Test.YtfajhjppbecjaaaScript
namespace Go.Proofs.Ytfajhjppbecjaaa
open Go.RowKit

theorem next_nil (w : World) : Calls Try.prog 45 #[.pointer none] w fun e w' => e = .returned (.tuple #[.slice none 0 0, .bool false, .int .i64 0]) ∧ w = w' := by
  go_enter Try.func45, Try.ntmps45
  go_wp2
  go_ret3
  exact ⟨rfl, rfl⟩
theorem next_end (w : World) (base K sz e : Nat) (v : Value) (h : Scr w base K v sz e []) :
    Calls Try.prog 45 #[.pointer (some ⟨K, 0, none⟩)] w fun r w' => r = .returned (.tuple #[.slice none 0 0, .bool false, .int .i64 (e : Int)]) ∧ ∃ n, w' = w.drewN n := by
  obtain ⟨h0, _, h2, _⟩ := h.cells
  obtain ⟨a, c, rfl, _⟩ := h.2.2.1
  clear h
  go_enter Try.func45, Try.ntmps45
  go_wp2
  go_quiet (fail)
  go_wp2
  go_ret3
  exact ⟨rfl, _, rfl⟩
set_option maxHeartbeats 400000 in
theorem next_more (w : World) (base K sz e : Nat) (v : Value) (p : List UInt8) (L : List (List UInt8)) (h : Scr w base K v sz e (p :: L)) :
    Calls Try.prog 45 #[.pointer (some ⟨K, 0, none⟩)] w fun r w' => ∃ c v', r = .returned (.tuple #[.slice (some ⟨w.heap.size, 0, none⟩) p.length c, .bool true, .int .i64 0]) ∧
      bytesAt w' (.slice (some ⟨w.heap.size, 0, none⟩) p.length c) p ∧ rowOk w' w.heap.size p.length ∧ Scr w' base K v' sz e L ∧ Kept (fun k => k = K) w w' ∧ (∀ k, mineS K v' k → mineS K v k) := by
  obtain ⟨h0, _, h2, f0⟩ := h.cells
  obtain ⟨a, c, rfl, hc⟩ := h.2.2.1
  obtain ⟨ad, rfl, hcell⟩ := hc 0 (by simp)
  clear hc
  have hlc := h.2.2.2.1 _ _ _ rfl
  obtain ⟨a1, c1, hsl, hab, hlc1, hst⟩ := slice_one ad (p :: L).length c (by simp) hlc
  obtain ⟨x, hx⟩ : ∃ x : ByteArray, x = ⟨p.toArray⟩ := ⟨_, rfl⟩
  have hxb : bs x = p := by rw [hx]
  have hxs : x.size = p.length := by rw [hx]; exact List.size_toArray
  rw [add_zero_any] at hcell
  unfold tx at hcell
  have hcell' : w.cell? ad = some (.string x) := by rw [hcell, hx]; rfl
  obtain ⟨c4, w4, hcv, hb4, hr4, hbel4, hz4⟩ := conv_row w x
  have hK4 := hbel4.block K h.lt
  have d0 : w4.cell? ⟨K, 0, none⟩ = some (.slice (some ad) (p :: L).length c) := (World.cell?_of_block (a := ⟨K, 0, none⟩) hK4).trans h0
  have g0 : w4.frozen? ⟨K, 0, none⟩ = false := (World.frozen?_of_block (a := ⟨K, 0, none⟩) hK4).trans f0
  have hK5 : (w4.setCell ⟨K, 0, none⟩ (.slice (some a1) ((p :: L).length - 1) c1)).heap[K]? = some (.cells #[.slice (some a1) ((p :: L).length - 1) c1, .int .i64 (sz : Int), .int .i64 (e : Int)] 50 (0, 0)) := by
    rw [heap_setCell_at (hK4.trans h.2.1)]; rfl
  have hother : ∀ k, k < w.heap.size → k ≠ K → (w4.setCell ⟨K, 0, none⟩ (.slice (some a1) ((p :: L).length - 1) c1)).heap[k]? = w.heap[k]? := fun k hk hne => (Below.heap_setCell _ _ _ _ hne).trans (hbel4.block k hk)
  have hblk := h.2.2.2.2 _ _ _ rfl
  have hS5 : Scr (w4.setCell ⟨K, 0, none⟩ (.slice (some a1) ((p :: L).length - 1) c1)) base K (.slice (some a1) ((p :: L).length - 1) c1) sz e L := by
    refine ⟨h.1, hK5, ?_, ?_, ?_⟩
    · refine (hst w p L h.2.2.1).kept fun a n cc ev => ?_
      cases ev
      rw [hab]; exact hother _ hblk.2.1 hblk.2.2
    · intro a n cc ev; cases ev; exact hlc1
    · intro a n cc ev; cases ev; rw [hab]; exact ⟨hblk.1, by rw [World.size_setCell, hz4]; omega, hblk.2.2⟩
  have HS5 := Lib.hid hS5
  have HK5 : Hid (Kept (fun k => k = K) w (w4.setCell ⟨K, 0, none⟩ (.slice (some a1) ((p :: L).length - 1) c1))) := Lib.hid ((Kept.of_below hbel4 (Nat.le_refl _)).setCell _ _ fun _ => rfl)
  have hKne : w.heap.size ≠ K := by have := h.lt; omega
  have HB5 : Hid (bytesAt (w4.setCell ⟨K, 0, none⟩ (.slice (some a1) ((p :: L).length - 1) c1)) (.slice (some ⟨w.heap.size, 0, none⟩) x.size c4) (bs x)) :=
    Lib.hid (hb4.kept fun g hg => Below.heap_setCell _ _ _ _ (by simp [Value.ownBlock] at hg; subst hg; exact hKne))
  have HR5 : Hid (rowOk (w4.setCell ⟨K, 0, none⟩ (.slice (some a1) ((p :: L).length - 1) c1)) w.heap.size x.size) := Lib.hid (hr4.kept (Below.heap_setCell _ _ _ _ hKne))
  have HXB := Lib.hid hxb
  have HXS := Lib.hid hxs
  have HAB := Lib.hid hab
  have hpl : ¬ ((p :: L).length : Int) = 0 := by simp; omega
  obtain ⟨N, hN⟩ : ∃ N, N = (p :: L).length := ⟨_, rfl⟩
  have hNp : 0 < N := by rw [hN]; simp
  rw [← hN] at h0 d0 hsl hpl
  rw [← hN] at HS5 HK5 HB5 HR5
  clear h hK4 hb4 hr4 hother hK5 hS5 hst hblk hcell hxs hxb hx hab hlc hN
  go_enter Try.func45, Try.ntmps45
  go_wp2
  go_ret3
  rw [HXB.out] at HB5
  refine ⟨c4, _, ?_, ?_, ?_, HS5.out, HK5.out, ?_⟩
  · rw [HXS.out]; rfl
  · rw [← HXS.out]; exact HB5.out
  · rw [← HXS.out]; exact HR5.out
  · rintro k (rfl | ⟨a, n, cc, ev, rfl⟩)
    · exact .inl rfl
    · cases ev; exact .inr ⟨ad, _, _, rfl, HAB.out.symm⟩
/-! Plain. -/
def Pln (w : World) (K : Nat) (t : ByteArray) : Prop := w.heap[K]? = some (.cells #[.string t] 41 (0, 0))
theorem Pln.lt {w : World} {K : Nat} {t : ByteArray} (h : Pln w K t) : K < w.heap.size := (Array.getElem?_eq_some_iff.1 h).1
theorem Pln.cells {w : World} {K : Nat} {t : ByteArray} (h : Pln w K t) : w.cell? ⟨K, 0, none⟩ = some (.string t) ∧ w.frozen? ⟨K, 0, none⟩ = false :=
  ⟨by rw [Lib.cell_of_heap h]; rfl, Lib.frozen_of_heap h 0⟩
theorem plain_nil (w : World) : Calls Try.prog 47 #[.pointer none] w fun e w' => e = .returned (.tuple #[.slice none 0 0, .bool false, .int .i64 0]) ∧ w = w' := by
  go_enter Try.func47, Try.ntmps47
  go_wp2
  go_ret3
  exact ⟨rfl, rfl⟩
theorem plain_end (w : World) (K : Nat) (h : Pln w K ⟨#[]⟩) : Calls Try.prog 47 #[.pointer (some ⟨K, 0, none⟩)] w fun e w' => e = .returned (.tuple #[.slice none 0 0, .bool false, .int .i64 0]) ∧ w = w' := by
  obtain ⟨h0, _⟩ := h.cells
  clear h
  go_enter Try.func47, Try.ntmps47
  go_wp2
  go_ret3
  exact ⟨rfl, rfl⟩
theorem plain_more (w : World) (K : Nat) (t : ByteArray) (h : Pln w K t) (ht : bs t ≠ []) : Calls Try.prog 47 #[.pointer (some ⟨K, 0, none⟩)] w fun e w' => ∃ c, e = .returned (.tuple #[.slice (some ⟨w.heap.size, 0, none⟩) t.size c, .bool true, .int .i64 0]) ∧
      bytesAt w' (.slice (some ⟨w.heap.size, 0, none⟩) t.size c) (bs t) ∧ Pln w' K ⟨#[]⟩ ∧ Kept (fun k => k = K) w w' := by
  obtain ⟨h0, f0⟩ := h.cells
  have hxb := some_text ht
  obtain ⟨c4, w4, hcv, hb4, hr4, hbel4, hz4⟩ := conv_row w t
  have hK4 := hbel4.block K h.lt
  have d0 : w4.cell? ⟨K, 0, none⟩ = some (.string t) := (World.cell?_of_block (a := ⟨K, 0, none⟩) hK4).trans h0
  have g0 : w4.frozen? ⟨K, 0, none⟩ = false := (World.frozen?_of_block (a := ⟨K, 0, none⟩) hK4).trans f0
  have hKne : w.heap.size ≠ K := by have := h.lt; omega
  have HP : Hid (Pln (w4.setCell ⟨K, 0, none⟩ (.string ⟨#[]⟩)) K ⟨#[]⟩) := Lib.hid (by unfold Pln; rw [heap_setCell_at (hK4.trans h)]; rfl)
  have HK5 : Hid (Kept (fun k => k = K) w (w4.setCell ⟨K, 0, none⟩ (.string ⟨#[]⟩))) := Lib.hid ((Kept.of_below hbel4 (Nat.le_refl _)).setCell _ _ fun _ => rfl)
  have HB5 : Hid (bytesAt (w4.setCell ⟨K, 0, none⟩ (.string ⟨#[]⟩)) (.slice (some ⟨w.heap.size, 0, none⟩) t.size c4) (bs t)) :=
    Lib.hid (hb4.kept fun g hg => Below.heap_setCell _ _ _ _ (by simp [Value.ownBlock] at hg; subst hg; exact hKne))
  clear h hb4 hr4 hK4 ht
  go_enter Try.func47, Try.ntmps47
  go_wp2
  go_ret3
  exact ⟨c4, rfl, HB5.out, HP.out, HK5.out⟩
theorem pln_new (w : World) (t : ByteArray) : Pln (w.alloc (.cells #[.string t] 41)) w.heap.size t := heap_alloc_new w _
theorem pln_new2 (w : World) (a t : ByteArray) : Pln ((w.alloc (.cells #[.string a] 41)).alloc (.cells #[.string t] 41)) (w.heap.size + 1) t := by
  have := pln_new (w.alloc (.cells #[.string a] 41)) t
  rw [World.size_alloc] at this
  exact this
def leftLen (w : World) (K : Nat) : Nat := match w.cell? ⟨K, 0, none⟩ with | some (.slice _ n _) => n | _ => 0
theorem Scr.left {w : World} {base K sz e : Nat} {v : Value} {L : List (List UInt8)} (h : Scr w base K v sz e L) : leftLen w K = L.length := by
  obtain ⟨h0, _⟩ := h.cells
  obtain ⟨a, c, rfl, _⟩ := h.2.2.1
  unfold leftLen; rw [h0]
/-! All of a Plain. -/
def textLen (w : World) (K : Nat) : Nat := match w.cell? ⟨K, 0, none⟩ with | some (.string t) => t.size | _ => 0
theorem Pln.left {w : World} {K : Nat} {t : ByteArray} (h : Pln w K t) : textLen w K = t.size := by
  unfold textLen; rw [h.cells.1]
end Go.Proofs.Ytfajhjppbecjaaa
