/- The best merge: the program's Best, walked. -/
import Derived.Test.YtbacbgpemaldbaaNpP
import Derived.Test.YtbacbgpemaldbaaNpC
import Derived.Laws.ResultCell
namespace Go.Proofs.Ytbacbgpemaldbaa
open Go.RowKit Go.Maps

set_option maxRecDepth 100000 in
theorem ranges_same {w w' : World} {b r n : Nat} {D : DataW Unit} {left : Lit → Bool} {cnt : Nat} (h : w.ranges Try.prog 54 (plainElem Try.prog 3) b r n D left cnt) (hb : w'.heap[b]? = w.heap[b]?) (hr : w'.heap[r]? = w.heap[r]?) : w'.ranges Try.prog 54 (plainElem Try.prog 3) b r n D left cnt := by
  obtain ⟨es, clock, since, seen, c0, h1, F, hs, hD, h2, rest⟩ := h
  exact ⟨es, clock, since, seen, c0, hb.trans h1, F, hs, hD, hr.trans h2, rest⟩
/-- The worlds of Best: its result's box N4, the best one's box Bb, the map b, the range r. -/
structure BxSt (w : World) (N4 Bb b r n : Nat) (D : DataW Unit) (left : Lit → Bool) (cnt : Nat) (m : Mg) (W : World) : Prop where
  bel : Below w.heap.size w W
  res : W.heap[N4]? = some (.cells #[.string ⟨#[]⟩, .string ⟨#[]⟩] 33 (0, 0))
  box : W.heap[Bb]? = some (.cells #[.string m.1, .string m.2] 54 (0, 0))
  rng : W.ranges Try.prog 54 (plainElem Try.prog 3) b r n D left cnt
  lo : w.heap.size ≤ N4 ∧ N4 < Bb ∧ Bb < b ∧ b < r
variable {w W W' : World} {N4 Bb b r n cnt : Nat} {D : DataW Unit} {left : Lit → Bool} {m : Mg}
set_option maxRecDepth 100000 in
theorem BxSt.below (h : BxSt w N4 Bb b r n D left cnt m W) (hb : Below W.heap.size W W') : BxSt w N4 Bb b r n D left cnt m W' := by
  have h1 := h.rng.lt
  have h2 := h.lo
  exact ⟨h.bel.trans (hb.mono h.bel.size), (hb.block N4 (by omega)).trans h.res, (hb.block Bb (by omega)).trans h.box, ranges_same h.rng (hb.block b (by omega)) (hb.block r h1), h.lo⟩
set_option maxRecDepth 100000 in
theorem BxSt.next {left' : Lit → Bool} {cnt' : Nat} (h : BxSt w N4 Bb b r n D left cnt m W) (hg : W.grownBy W' (some r)) (hr : W'.ranges Try.prog 54 (plainElem Try.prog 3) b r n D left' cnt') : BxSt w N4 Bb b r n D left' cnt' m W' := by
  have h1 := h.rng.lt
  have h2 := h.lo
  have hs := h.bel.size
  exact ⟨h.bel.grown hg hs fun g e => by cases e; omega, (hg.block N4 (by omega) fun e => by cases e; omega).trans h.res, (hg.block Bb (by omega) fun e => by cases e; omega).trans h.box, hr, h.lo⟩
set_option maxRecDepth 100000 in
theorem BxSt.set (h : BxSt w N4 Bb b r n D left cnt m W) (m' : Mg) : BxSt w N4 Bb b r n D left cnt m' ((W.setCell ⟨Bb, 0, none⟩ (.string m'.1)).setCell ⟨Bb, 1, none⟩ (.string m'.2)) := by
  have hne : ∀ j, j ≠ Bb → ((W.setCell ⟨Bb, 0, none⟩ (.string m'.1)).setCell ⟨Bb, 1, none⟩ (.string m'.2)).heap[j]? = W.heap[j]? := fun j hj => by rw [Below.heap_setCell _ ⟨Bb, 1, none⟩ _ j hj, Below.heap_setCell _ ⟨Bb, 0, none⟩ _ j hj]
  have h2 := h.lo
  exact ⟨(h.bel.setCell (p := ⟨Bb, 0, none⟩) (show w.heap.size ≤ Bb by omega) _).setCell (p := ⟨Bb, 1, none⟩) (show w.heap.size ≤ Bb by omega) _, (hne N4 (by omega)).trans h.res,
    heap_setCell_at (heap_setCell_at h.box (i := 0) (.string m'.1)) (i := 1) (.string m'.2), ranges_same h.rng (hne b (by omega)) (hne r (by omega)), h.lo⟩
def BxRel (WW : List (List ByteArray)) (C : List Int) (w : World) (N4 Bb b r n : Nat) (D : DataW Unit) (s : Value) (wr : World) : Prop :=
  ∃ (left : Lit → Bool) (cnt : Nat) (S : List Mg) (m : Mg) (k : Int), s = .int .i64 k ∧ BxSt w N4 Bb b r n D left cnt m wr ∧ BestIn WW C S m k ∧ (∀ q, q ∈ S ↔ FitsM q ∧ 1 ≤ cntW q WW C ∧ left (kk q) = false)
/-- What the map tells. -/
def CoTold (WW : List (List ByteArray)) (C : List Int) (D : DataW Unit) : Prop := ∀ p, FitsM p → D.atKey (kk p) (.lit (.int .i64 0)) = .lit (.int .i64 (cntW p WW C)) ∧ Maps.has D (kk p) = decide (cntW p WW C ≠ 0)
set_option maxRecDepth 100000 in
theorem bx_told {WW : List (List ByteArray)} {C : List Int} {q : Mg} {c : Int} (hD : CoTold WW C D) (hq : FitsM q) (hat : ∀ zd, D.atKey (kk q) zd = .lit (.int .i64 c)) : c = cntW q WW C ∧ 1 ≤ cntW q WW C := by
  obtain ⟨h1, h2⟩ := hD q hq
  rw [hat] at h1
  simp only [DataW.lit.injEq, Lit.int.injEq, true_and] at h1
  rw [has_true_of_atKey hat] at h2
  have h3 := of_decide_eq_true h2.symm
  have h4 := (cntW_le q WW C).1
  exact ⟨h1, by omega⟩
set_option maxRecDepth 100000 in
/-- One more is seen. -/
theorem bx_seen {WW : List (List ByteArray)} {C : List Int} {S : List Mg} {q : Mg} (hS : ∀ q, q ∈ S ↔ FitsM q ∧ 1 ≤ cntW q WW C ∧ left (kk q) = false) (hq : FitsM q) (h1 : 1 ≤ cntW q WW C) :
    ∀ p, p ∈ S ++ [q] ↔ FitsM p ∧ 1 ≤ cntW p WW C ∧ (left (kk p) && !(kk p).sameKey (kk q)) = false := by
  intro p
  rw [List.mem_append, List.mem_singleton, hS]
  constructor
  · rintro (⟨a1, a2, a4⟩ | rfl)
    · exact ⟨a1, a2, by rw [a4]; rfl⟩
    · exact ⟨hq, h1, by rw [WideAt.sameKey_self (kk_key _)]; simp⟩
  · rintro ⟨a1, a2, a4⟩
    by_cases e : p = q
    · exact .inr e
    · refine .inl ⟨a1, a2, ?_⟩
      rw [sameKey_ne fun k => e (kk_inj a1 hq k)] at a4
      simpa using a4
set_option maxRecDepth 100000 in
theorem fits_counted {WW : List (List ByteArray)} {C : List Int} {q : Mg} (hsz : ∀ W ∈ WW, ∀ t ∈ W, t.size ≤ 1000000) (h : 1 ≤ cntW q WW C) : FitsM q := by
  obtain ⟨W, hW, hc⟩ := cnt_some h
  obtain ⟨P, Q, e⟩ := cnt_stands hc
  have h1 := hsz W hW q.1 (by rw [e]; simp)
  have h2 := hsz W hW q.2 (by rw [e]; simp)
  exact ⟨by unfold maxLen; omega, by unfold maxLen; omega⟩
set_option maxRecDepth 100000 in
set_option maxHeartbeats 8000000 in
theorem best_any (x y : Value) (WW : List (List ByteArray)) (C : List Int) (w : World) (hx : rowsT w x WW) (hy : eltsAt intE w y C) (hyn : nilNone y) (hyc : ∀ a n c, y = .slice a n c → n ≤ c) (hl : WW.length ≤ 1000000) (hCl : C.length ≤ 9223372036854775807) (hall : allT WW ≤ 1000000) (hcap : capW WW C ≤ 9223372036854775807) (hsz : ∀ W ∈ WW, ∀ t ∈ W, t.size ≤ 1000000) :
    Calls Try.prog 12 #[x, y] w fun e w' => BtRet WW C w e w' := by
  obtain ⟨N4, hN4⟩ : ∃ M, w.heap.size = M := ⟨_, rfl⟩
  obtain ⟨w1, hw1⟩ : ∃ w1, (w.alloc (.cells #[.string ⟨#[]⟩, .string ⟨#[]⟩] 33)).alloc (.cells #[.string ⟨#[]⟩, .string ⟨#[]⟩] 54) = w1 := ⟨_, rfl⟩
  have hs0 : (w.alloc (.cells #[.string ⟨#[]⟩, .string ⟨#[]⟩] 33)).heap.size = N4 + 1 := by rw [World.size_alloc, hN4]
  have hs1 : w1.heap.size = N4 + 2 := by rw [← hw1, World.size_alloc, hs0]
  have HB1 : Hid (Below w.heap.size w w1) := Lib.hid (by rw [← hw1]; exact ((Below.refl _ w).alloc (Nat.le_refl _) _).alloc (by rw [hs0]; omega) _)
  have HRES : Hid (w1.heap[N4]? = some (.cells #[.string ⟨#[]⟩, .string ⟨#[]⟩] 33 (0, 0))) := Lib.hid (by
    rw [← hw1, Below.heap_alloc _ _ _ (by rw [hs0]; omega), ← hN4]
    exact heap_alloc_new w _)
  have HBOX : Hid (w1.heap[N4 + 1]? = some (.cells #[.string ⟨#[]⟩, .string ⟨#[]⟩] 54 (0, 0))) := Lib.hid (by
    rw [← hw1, ← hs0]
    exact heap_alloc_new _ _)
  have cC := couples_any x y WW C w1 (hx.below HB1.out) (hy.below HB1.out (Nat.le_refl _)) hyn hyc hl hCl hall hcap hsz
  have HSZ := Lib.hid hsz
  have HS1 := Lib.hid hs1
  have HN4 := Lib.hid hN4
  clear hx hy hyn hyc hs0 hs1 hl hCl hall hcap hsz
  go_enter Try.func12, Try.ntmps12
  go_wp2_with fail
  refine cC.mono ?_
  rintro e w2 ⟨b, NM, rfl, hm, hlo, hb2⟩
  obtain ⟨D, hown, hat, _⟩ := hm
  obtain ⟨w3, hrng, hrg3, hg3, hs3⟩ := World.ownsMap.range (w := w2) hown lawK Try.underlying55
  have HD : Hid (CoTold WW C D) := Lib.hid hat
  have hbs := World.ownsMap.lt hown
  obtain ⟨r, hr⟩ : ∃ r, w2.heap.size = r := ⟨_, rfl⟩
  rw [hr] at hrng hrg3
  have HST : Hid (BxRel WW C w N4 (N4 + 1) b r NM D (.int .i64 0) w3) := Lib.hid (by
    have h1 := HS1.out
    have hB3 := HB1.out.trans (hb2.mono HB1.out.size)
    have h4 := hb2.size
    have h5 := HN4.out
    refine ⟨_, _, [], noM, 0, rfl, ⟨hB3.grown hg3 hB3.size (by simp), ?_, ?_, hrg3, by omega⟩, best_none _ _, fun q => ⟨fun h => by simp at h, fun h => ?_⟩⟩
    · exact ((hg3.block N4 (by omega) (by simp)).trans (hb2.block N4 (by omega))).trans HRES.out
    · exact ((hg3.block (N4 + 1) (by omega) (by simp)).trans (hb2.block (N4 + 1) (by omega))).trans HBOX.out
    · obtain ⟨a1, a2, a3⟩ := h
      rw [(HD.out q a1).2, decide_eq_true (by omega)] at a3
      cases a3)
  obtain ⟨Bb, hBb⟩ : ∃ Bb, N4 + 1 = Bb := ⟨_, rfl⟩
  rw [hBb] at HST ⊢
  clear cC hlo hb2 hown hat hrg3 hg3 hs3 hbs hr hBb
  go_wp2
  go_loopw [7] (fun s wr => BxRel WW C w N4 Bb b r NM D s wr) (fun _ wr => wr.rangeLeft b r)
  case atStart => exact HST.out
  case round =>
    clear HST hrng
    obtain ⟨left, cnt, S, ⟨bl, br⟩, k, rfl, hst, hbi, hse⟩ := hrel
    have HST := Lib.hid hst; have HBI := Lib.hid hbi; have HSE := Lib.hid hse
    have HRG := Lib.hid hst.rng
    clear hst hbi hse
    go_wp2_with (at_next; refine wpList_next_couples _ rfl _ rfl D b r NM left cnt rfl HRG.out ?_ ?_)
    · intro _ hl0
      have HBR : Hid (BestRel WW C (bl, br) k) := Lib.hid (HBI.out.best fun q => by
        rw [HSE.out q]
        exact ⟨fun h => h.2.1, fun h => ⟨fits_counted HSZ.out h, h, hl0 _⟩⟩)
      obtain ⟨b0, b1⟩ := two_cells HST.out.box
      obtain ⟨e0, e1⟩ := two_cells HST.out.res
      have f0 : wr.frozen? ⟨N4, 0, none⟩ = false := Lib.frozen_of_heap HST.out.res _
      have f1 : wr.frozen? ⟨N4, 1, none⟩ = false := Lib.frozen_of_heap HST.out.res _
      clear hl0
      simp only at b0 b1
      go_wp2
      have h0 := heap_setCell_at (heap_setCell_at HST.out.res (i := 0) (.string bl)) (i := 1) (.string br)
      have z0 := cell_of_row _ N4 0 _ 33 (0, 0) h0
      have z1 := cell_of_row _ N4 1 _ 33 (0, 0) h0
      refine bodyPost_ret (v := .tuple #[.agg #[.string bl, .string br], .int .i64 k]) (by rw [results_cell_tmp rfl]; simp [go_sem, z0, z1]) rfl ?_
      exact ⟨(bl, br), k, HBR.out, rfl, (HST.out.bel.setCell (p := ⟨N4, 0, none⟩) HST.out.lo.1 _).setCell (p := ⟨N4, 1, none⟩) HST.out.lo.1 _⟩
    · intro s t c w3 cnt3 hfp hlx hat hrg3 hlt hg3 hen
      obtain ⟨hc, h1⟩ := bx_told HD.out hfp hat
      have HS3 := HST.out.next hg3 hrg3
      have HST4 : Hid (BxSt w N4 Bb b r NM D (fun z => left z && !z.sameKey (kk (s, t))) cnt3 (bl, br) (w3.alloc (.cells #[.string s, .string t] 54))) := Lib.hid (HS3.below ((Below.refl _ w3).alloc (Nat.le_refl _) _))
      have HSN := Lib.hid (bx_seen HSE.out hfp h1)
      have HC := Lib.hid hc
      have H1 := Lib.hid h1
      have HLT : Hid (cnt3 < wr.rangeLeft b r) := Lib.hid (by rw [HRG.out.left_eq]; exact hlt)
      obtain ⟨w4, hw4⟩ : ∃ w4, w3.alloc (.cells #[.string s, .string t] 54) = w4 := ⟨_, rfl⟩
      obtain ⟨B8, hB8⟩ : ∃ B, w3.heap.size = B := ⟨_, rfl⟩
      have h8 : w4.heap[B8]? = some (.cells #[.string s, .string t] 54 (0, 0)) := by rw [← hw4, ← hB8]; exact heap_alloc_new _ _
      rw [hw4] at HST4
      have H8 := Lib.hid h8
      obtain ⟨x0, x1⟩ := two_cells h8
      obtain ⟨b0, b1⟩ := two_cells HST4.out.box
      have f0 : w4.frozen? ⟨Bb, 0, none⟩ = false := Lib.frozen_of_heap HST4.out.box _
      have f1 : w4.frozen? ⟨Bb, 1, none⟩ = false := Lib.frozen_of_heap HST4.out.box _
      simp only at b0 b1
      clear hfp hlx hat hrg3 hlt hg3 hc h1 HS3 h8
      rcases Int.lt_trichotomy c k with hck | hck | hck
      · have hg1 : ¬ k < c := by omega
        have hg2 : (c == k) = false := by simp; omega
        have HKP := Lib.hid (HBI.out.keep H1.out (by have := HC.out; rintro (h | ⟨h, _⟩) <;> omega))
        clear hck
        go_wp2
        go_roundw
        case rel => exact ⟨_, cnt3, _, (bl, br), k, rfl, HST4.out, HKP.out, HSN.out⟩
        case measure => rw [HST4.out.rng.left_eq]; exact HLT.out
      · subst hck
        have cA := ahead_any (s, t) (bl, br) w4
        have hg1 : ¬ c < c := by omega
        have H8L : Hid (B8 < w4.heap.size) := Lib.hid (Array.getElem?_eq_some_iff.1 H8.out).1
        simp only at cA
        go_wp2_with fail
        refine cA.mono ?_
        rintro e w5 ⟨rfl, hb5⟩
        have HST5 := Lib.hid (HST4.out.below hb5)
        have h85 := (hb5.block B8 H8L.out).trans H8.out
        clear cA hb5 x0 x1 b0 b1 f0 f1
        obtain ⟨x0, x1⟩ := two_cells h85
        obtain ⟨b0, b1⟩ := two_cells HST5.out.box
        have f0 : w5.frozen? ⟨Bb, 0, none⟩ = false := Lib.frozen_of_heap HST5.out.box _
        have f1 : w5.frozen? ⟨Bb, 1, none⟩ = false := Lib.frozen_of_heap HST5.out.box _
        simp only at b0 b1
        clear h85
        cases ha : aheadM (s, t) (bl, br) with
        | true =>
          have HTN := Lib.hid (HBI.out.turn H1.out (.inr ⟨HC.out.symm, ha⟩))
          have HSS := Lib.hid (HST5.out.set (s, t))
          clear ha
          go_wp2
          go_roundw
          case rel => exact ⟨_, cnt3, _, (s, t), c, rfl, HSS.out, by have := HTN.out; rw [← HC.out] at this; exact this, HSN.out⟩
          case measure => rw [HSS.out.rng.left_eq]; exact HLT.out
        | false =>
          have HKP := Lib.hid (HBI.out.keep H1.out (by have := HC.out; rintro (h | ⟨_, h⟩); · omega
                                                       · rw [ha] at h; cases h))
          clear ha
          go_wp2
          go_roundw
          case rel => exact ⟨_, cnt3, _, (bl, br), c, rfl, HST5.out, HKP.out, HSN.out⟩
          case measure => rw [HST5.out.rng.left_eq]; exact HLT.out
      · have HTN := Lib.hid (HBI.out.turn H1.out (.inl (by have := HC.out; omega)))
        have HSS := Lib.hid (HST4.out.set (s, t))
        go_wp2
        go_roundw
        case rel => exact ⟨_, cnt3, _, (s, t), c, rfl, HSS.out, by rw [HC.out]; exact HTN.out, HSN.out⟩
        case measure => rw [HSS.out.rng.left_eq]; exact HLT.out
end Go.Proofs.Ytbacbgpemaldbaa
