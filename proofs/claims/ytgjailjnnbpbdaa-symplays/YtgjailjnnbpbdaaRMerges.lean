/- Merges of the document's own table, and Same. -/
import Derived.Test.YtgjailjnnbpbdaaRJoin
import Derived.Test.YtgjailjnnbpbdaaSMerges
import Derived.BigQuiet
namespace Go.Proofs.Ytgjailjnnbpbdaa
open Go.RowKit Go.Maps

/-- What is read of the table at one merge. -/
theorem six_cells {w wx : World} {base K gt gp N cap cp : Nat} {J : List Joint} (h : Rtab w base K (.slice (some ⟨gt, 0, none⟩) N cap) (.slice (some ⟨gp, 0, none⟩) J.length cp) J) (hb : Below w.heap.size w wx) {k i j : Nat} (hk : k < J.length) (hi : i < (textsOf J).length) (hj : j < (textsOf J).length)
    (h1 : J[k].2.1 = (i : Int)) (h2 : J[k].2.2 = (j : Int)) :
    wx.cell? ⟨K, 0, none⟩ = some (.slice (some ⟨gt, 0, none⟩) N cap) ∧ wx.cell? ⟨K, 1, none⟩ = some (.slice (some ⟨gp, 0, none⟩) J.length cp) ∧ wx.cell? ⟨gp, k * 2, none⟩ = some (.int .i64 (i : Int)) ∧ wx.cell? ⟨gp, k * 2 + 1, none⟩ = some (.int .i64 (j : Int)) ∧
    wx.cell? ⟨gt, i, none⟩ = some (.string (txtOf J (i : Int))) ∧ wx.cell? ⟨gt, j, none⟩ = some (.string (txtOf J (j : Int))) := by
  obtain ⟨c0, c1, _, _⟩ := rcell (h.below hb).cells
  have hk' : k < (J.map (·.2)).length := by simpa using hk
  have hp := elts_at h.pairs.reads hb hk'
  have e : (J.map (·.2))[k] = J[k].2 := by simp
  have p0 := hp 0 (.int .i64 (i : Int)) (by rw [e, ← h1]; rfl)
  have p1 := hp 1 (.int .i64 (j : Int)) (by rw [e, ← h2]; rfl)
  rw [add_zero_off] at p0 p1
  have x := texts_cell h.texts.reads hb hi
  have y := texts_cell h.texts.reads hb hj
  rw [add_zero_off] at x y
  have ex := txt_there (J := J) (id := (i : Int)) (by omega) (by simpa using hi)
  have ey := txt_there (J := J) (id := (j : Int)) (by omega) (by simpa using hj)
  simp only [Int.toNat_natCast] at ex ey
  rw [← ex] at x
  rw [← ey] at y
  exact ⟨c0, c1, p0, p1, x, y⟩
def RMergesRel (J : List Joint) (w : World) (o i : Value) (wr : World) : Prop := ∃ k : Nat, i = .int .i64 (k : Int) ∧ k ≤ J.length ∧ ownE mergeE wr w.heap.size o ((mergesOf J).take k) ∧ Below w.heap.size w wr
def RMergesRet (J : List Joint) (w : World) (e : Ending) (w' : World) : Prop := ∃ r, e = .returned r ∧ ownE mergeE w' w.heap.size r (mergesOf J) ∧ Below w.heap.size w w'
theorem rmergesRel_step {J : List Joint} {w wr w3 : World} {o r : Value} {k : Nat} {M : List (ByteArray × ByteArray)} {q : Obj} (hk : k < J.length) (hM : (mergesOf J).take k = M) (ho : ownE mergeE wr w.heap.size o M) (hr : ownE mergeE w3 w.heap.size r (M ++ [(txtOf J J[k].2.1, txtOf J J[k].2.2)])) (hb : Below w.heap.size w wr) (hg : (wr.alloc q).drew.grownBy w3 o.ownBlock) :
    RMergesRel J w r (.int .i64 ((k : Int) + 1)) w3 := by
  have hs := hb.size
  refine ⟨k + 1, by simp, hk, ?_, ?_⟩
  · have e : (mergesOf J)[k]'(by rw [merges_len]; exact hk) = (txtOf J J[k].2.1, txtOf J J[k].2.2) := by simp [mergesOf]
    rw [List.take_succ_eq_append_getElem (by rw [merges_len]; exact hk), hM, e]
    exact hr
  · refine Below.grown ((hb.alloc hs q).drew) hg ?_ fun g hg => (ho.lt g hg).1
    show w.heap.size ≤ (wr.alloc q).heap.size
    rw [World.size_alloc]; omega
set_option maxRecDepth 100000 in
set_option maxHeartbeats 4000000 in
theorem rmerges_any (base K : Nat) (v p : Value) (J : List Joint) (w : World) (h : Rtab w base K v p J) (hg : Good J) (hJ : J.length ≤ 900000) :
    Calls Try.prog 19 #[.pointer (some ⟨K, 0, none⟩)] w fun e w' => RMergesRet J w e w' := by
  have H := Lib.hid h
  have HG := Lib.hid hg
  obtain ⟨a, cap, rfl, _⟩ := h.texts.form
  obtain ⟨ap, cp, rfl, _⟩ := h.pairs.form
  have hN := texts_len J
  have hP : (J.map (·.2)).length = J.length := by simp
  obtain ⟨gt, rfl, _⟩ := ownE_some h.texts (by omega)
  clear h hg
  rw [hP] at H
  obtain ⟨N, hNN⟩ : ∃ N, (textsOf J).length = N := ⟨_, rfl⟩
  have HN := Lib.hid hNN
  rw [hNN] at H hN
  have HNL := Lib.hid hN
  clear hNN hP hN
  go_enter Try.func19, Try.ntmps19
  go_wp2
  go_loopw [3, 4] (fun o i wr => RMergesRel J w o i wr) (fun _ i _ => J.length + 1 - (intOf i).toNat)
  case atStart => exact ⟨0, rfl, by omega, ownE.nil _ _, Below.refl _ _⟩
  case round =>
    obtain ⟨k, rfl, hk, hown, hb⟩ := hrel
    have HO := Lib.hid hown; have HB := Lib.hid hb
    clear hown hb
    by_cases hgo : k < J.length
    · have hkI : (k : Int) < (J.length : Int) := by omega
      have hk0 : (0 : Int) ≤ (k : Int) := by omega
      obtain ⟨gp, rfl, _⟩ := ownE_some H.out.pairs (by simp; omega)
      obtain ⟨g1, g2, _⟩ := HG.out.each k hgo
      obtain ⟨i, hi⟩ : ∃ i : Nat, J[k].2.1 = (i : Int) := ⟨J[k].2.1.toNat, by omega⟩
      obtain ⟨j, hj⟩ : ∃ j : Nat, J[k].2.2 = (j : Int) := ⟨J[k].2.2.toNat, by omega⟩
      have hiN : i < N := by have := HNL.out; omega
      have hjN : j < N := by have := HNL.out; omega
      have hiI : (i : Int) < (N : Int) := by omega
      have hjI : (j : Int) < (N : Int) := by omega
      have hi0 : (0 : Int) ≤ (i : Int) := by omega
      have hj0 : (0 : Int) ≤ (j : Int) := by omega
      have HI := Lib.hid hi; have HJ := Lib.hid hj
      obtain ⟨M, hM⟩ : ∃ M, (mergesOf J).take k = M := ⟨_, rfl⟩
      rw [hM] at HO
      have HMl : Hid (M.length = k) := Lib.hid (by rw [← hM, List.length_take, merges_len]; omega)
      have HM := Lib.hid hM
      have HSix : Hid (∀ wx, Below w.heap.size w wx → wx.cell? ⟨K, 0, none⟩ = some (.slice (some ⟨gt, 0, none⟩) N cap) ∧ wx.cell? ⟨K, 1, none⟩ = some (.slice (some ⟨gp, 0, none⟩) J.length cp) ∧ wx.cell? ⟨gp, k * 2, none⟩ = some (.int .i64 (i : Int)) ∧ wx.cell? ⟨gp, k * 2 + 1, none⟩ = some (.int .i64 (j : Int)) ∧
        wx.cell? ⟨gt, i, none⟩ = some (.string (txtOf J (i : Int))) ∧ wx.cell? ⟨gt, j, none⟩ = some (.string (txtOf J (j : Int)))) := Lib.hid fun wx hb => six_cells H.out hb hgo (by rw [HN.out]; exact hiN) (by rw [HN.out]; exact hjN) HI.out HJ.out
      clear hM hi hj g1 g2
      have HX : Hid (J[k].2.1 = (i : Int) ∧ J[k].2.2 = (j : Int)) := Lib.hid ⟨HI.out, HJ.out⟩
      obtain ⟨x, hx⟩ : ∃ x, txtOf J (i : Int) = x := ⟨_, rfl⟩
      obtain ⟨y, hy⟩ : ∃ y, txtOf J (j : Int) = y := ⟨_, rfl⟩
      rw [hx, hy] at HSix
      have HEX := Lib.hid hx; have HEY := Lib.hid hy
      clear hx hy
      have hBs := HB.out.size
      have HBa : Hid (Below w.heap.size w (wr.alloc (.cells #[.string x, .string y] 63)).drew) := Lib.hid (HB.out.alloc hBs _).drew
      obtain ⟨c0, c1, c2, c3, c4, c5⟩ := HSix.out wr HB.out
      go_wp2
      go_region_held3 (fun wx => wx.cell? ⟨K, 0, none⟩ = some (.slice (some ⟨gt, 0, none⟩) N cap) ∧ wx.cell? ⟨K, 1, none⟩ = some (.slice (some ⟨gp, 0, none⟩) J.length cp) ∧ wx.cell? ⟨gp, k * 2, none⟩ = some (.int .i64 (i : Int)) ∧ wx.cell? ⟨gp, k * 2 + 1, none⟩ = some (.int .i64 (j : Int)) ∧ wx.cell? ⟨gt, i, none⟩ = some (.string x) ∧ wx.cell? ⟨gt, j, none⟩ = some (.string y))
        (first | exact ⟨c0, c1, c2, c3, c4, c5⟩ | exact HSix.out _ HBa.out | exact HSix.out _ HB3.out)
        (first | (refine step_append_elts mergeE rfl (.tmp 14) (.tmp 44) rfl w.heap.size u3 (.slice (some ⟨wr.heap.size, 0, none⟩) 1 1) M [(x, y)] rfl rfl (HO.out.alloc _).drew (one_elt mergeE wr (x, y)) (someNone _ _ _) (by rw [HMl.out]; simp only [List.length_singleton]; omega) HBa.out.size ?_; intro r w3 ho3 hgr3 _; have HO3 := Lib.hid ho3; have HG3 := Lib.hid hgr3; have HST : Hid (RMergesRel J w r (.int .i64 ((k : Int) + 1)) w3) := Lib.hid (rmergesRel_step hgo HM.out HO.out (by rw [HX.out.1, HX.out.2, HEX.out, HEY.out]; exact ho3) HB.out hgr3); have HB3 : Hid (Below w.heap.size w w3) := Lib.hid (by obtain ⟨_, _, _, _, hb⟩ := HST.out; exact hb); clear ho3 hgr3))
      go_wp2
      go_roundw
      case rel => exact HST.out
      case measure => simp [intOf]; omega
    · have hkI : ¬ (k : Int) < (J.length : Int) := by omega
      obtain ⟨c0, c1, _, _⟩ := rcell (H.out.below HB.out).cells
      have hown := HO.out
      rw [List.take_of_length_le (by rw [merges_len]; omega)] at hown
      have HE := Lib.hid hown
      clear hown
      go_wp2
      go_ret
      exact ⟨_, rfl, HE.out, HB.out⟩
end Go.Proofs.Ytgjailjnnbpbdaa
