/- A symbol is put behind all others. -/
import Derived.Test.YthjblamfkfclhaaSTab
import Derived.Deep.RegionHeld3
namespace Go.Proofs.Ythjblamfkfclhaa
open Go.RowKit Go.Maps

/-- What Join leaves: the table has the symbols J; no block but its own has turned, and its blocks are those that it had, or new ones. -/
def JoinRet (K : Nat) (v : Value) (b : Option Nat) (J : List Joint) (w w' : World) : Prop :=
  ∃ v' b', Stab w' K v' b' J ∧ Kept (mineT K v b) w w' ∧ ∀ k, mineT K v' b' k → k < w.heap.size → mineT K v b k
theorem JoinRet.refl {K : Nat} {v : Value} {b : Option Nat} {J : List Joint} {w : World} (h : Stab w K v b J) : JoinRet K v b J w w := ⟨v, b, h, Kept.refl _ _, fun _ h _ => h⟩
theorem JoinRet.below {K : Nat} {v : Value} {b : Option Nat} {J : List Joint} {w w' : World} (h : Stab w K v b J) (hb : Below w.heap.size w w') : JoinRet K v b J w w' := ⟨v, b, h.below hb, Kept.of_below hb (Nat.le_refl _), fun _ h _ => h⟩
theorem JoinRet.after {K : Nat} {v : Value} {b : Option Nat} {J : List Joint} {w w1 w' : World} (hb : Below w.heap.size w w1) (h : JoinRet K v b J w1 w') : JoinRet K v b J w w' := by
  obtain ⟨v', b', h1, h2, h3⟩ := h
  exact ⟨v', b', h1, (Kept.of_below hb (Nat.le_refl _)).trans h2 fun i _ hm => hm, fun k hk hlt => h3 k hk (Nat.lt_of_lt_of_le hlt hb.size)⟩
/-- A map made and laid into the table. -/
theorem made_stab {w : World} {K : Nat} {v : Value} {J : List Joint} (h : Stab w K v none J) : Stab ((w.alloc (.map #[] 0)).setCell ⟨K, 1, none⟩ (.map (some w.heap.size))) K v (some w.heap.size) J := by
  have hK := h.lt K (.inl rfl)
  obtain ⟨L, hm, hL⟩ := h.map
  have hL0 : L = [] := hL
  subst hL0
  have hJ := mapOf_none hm
  subst hJ
  have h1 : (w.alloc (.map #[] 0)).heap[K]? = some (.cells #[v, .map none] 66 (0, 0)) := (Below.heap_alloc w _ K hK).trans h.cells
  refine ⟨heap_setCell_at h1 _, good_nil, h.row.kept fun g hg => ?_, [], mapOf_nil, ?_⟩
  · have hg1 := (h.row.lt g hg).2
    obtain ⟨cs, hc⟩ := h.row.block g hg
    rw [Below.heap_setCell _ _ _ _ (show g ≠ K by rintro rfl; rw [h.cells] at hc; cases hc)]
    exact Below.heap_alloc w _ g hg1
  · exact (World.ownsMap_made w Try.prog 9 (plainElem (H := Unit) Try.prog 3)).setCell (by show w.heap.size ≠ K; omega) _
/-- The last step: the row is longer by one, and is laid into the table. -/
theorem add_last {w w2 w3 : World} {K m : Nat} {v r : Value} {b : Option Nat} {J : List Joint} {x : Joint} {L : Bag} {o : Obj} (hK : w2.heap[K]? = some (.cells #[v, .map (some m)] 66 (0, 0))) (hg : Good (J ++ [x])) (hrow : ownE jointE w2 0 v J)
    (hmap : mapIs w2 (some m) L) (hM : MapOf (J ++ [x]) L) (hk : Kept (mineT K v b) w w2) (hmb : m < w.heap.size → b = some m) (ho : ownE jointE w3 0 r (J ++ [x])) (hgr : (w2.alloc o).drew.grownBy w3 v.ownBlock)
    (hb : r.ownBlock = v.ownBlock ∨ r.ownBlock = some (w2.alloc o).drew.heap.size) : JoinRet K v b (J ++ [x]) w (w3.setCell ⟨K, 0, none⟩ r) := by
  have hK2 := (Array.getElem?_eq_some_iff.1 hK).1
  have hm2 := hmap.lt
  have hs : (w2.alloc o).drew.heap.size = w2.heap.size + 1 := by show (w2.alloc o).heap.size = _; rw [World.size_alloc]
  have old : ∀ k, k < w2.heap.size → some k ≠ v.ownBlock → w3.heap[k]? = w2.heap[k]? := fun k hk hne => (hgr.block k (by omega) hne).trans (Below.heap_alloc w2 o k hk)
  have nK : some K ≠ v.ownBlock := fun e => by
    obtain ⟨cs, hc⟩ := hrow.block K e.symm
    rw [hK] at hc; cases hc
  have nm : some m ≠ v.ownBlock := fun e => by
    obtain ⟨cs, hc⟩ := hrow.block m e.symm
    obtain ⟨es, cl, hb⟩ := hmap.block
    rw [hb] at hc; cases hc
  have h3 := (old K hK2 nK).trans hK
  have nr : ∀ g, r.ownBlock = some g → g ≠ K := fun g hg e => by
    obtain ⟨cs, hc⟩ := ho.block g hg
    rw [e, h3] at hc; cases hc
  have mK : m ≠ K := fun e => by
    obtain ⟨es, cl, hb⟩ := hmap.block
    rw [e, hK] at hb; cases hb
  refine ⟨r, some m, ⟨heap_setCell_at h3 r, hg, ho.kept fun g hg => Below.heap_setCell _ _ _ _ (nr g hg), L, hM, hmap.kept fun m' e => ?_⟩, ?_, ?_⟩
  · cases e
    rw [Below.heap_setCell _ _ _ _ mK]
    exact old m hm2 nm
  · refine Kept.setCell ?_ _ _ fun _ => .inl rfl
    refine Kept.grown ((hk.alloc o).drew) hgr fun k e _ => .inr (.inl e.symm)
  · rintro k (e | e | e) hlt
    · exact .inl e
    · rcases hb with hb | hb
      · exact .inr (.inl (by rw [e, hb]))
      · rw [hb] at e
        cases e
        have := hk.size
        omega
    · cases e
      exact .inr (.inr (hmb hlt).symm)
/-- What stands behind the map's making. -/
theorem put_facts {w wb w2 : World} {K N m : Nat} {v : Value} {b : Option Nat} {J : List Joint} {t : ByteArray} {p q : Int} (hA : Stab wb K v (some m) J) (hN : wb.heap[N]? = some (.cells #[.string t, .int .i64 p, .int .i64 q] 74 (0, 0)))
    (hk : Kept (mineT K v b) w wb) (hmb : m < w.heap.size → b = some m) (hgr : wb.drew.grownBy w2 (some m)) :
    w2.heap[K]? = some (.cells #[v, .map (some m)] 66 (0, 0)) ∧ w2.heap[N]? = some (.cells #[.string t, .int .i64 p, .int .i64 q] 74 (0, 0)) ∧ ownE jointE w2 0 v J ∧ Kept (mineT K v b) w w2 := by
  obtain ⟨L, _, hL⟩ := hA.map
  obtain ⟨es, cl, hm⟩ := hL.block
  have hK2 := (Array.getElem?_eq_some_iff.1 hA.cells).1
  have hN2 := (Array.getElem?_eq_some_iff.1 hN).1
  have nK : some K ≠ some m := fun e => by cases e; rw [hA.cells] at hm; cases hm
  have nN : some N ≠ some m := fun e => by cases e; rw [hN] at hm; cases hm
  refine ⟨(hgr.block K hK2 nK).trans hA.cells, (hgr.block N hN2 nN).trans hN, hA.row.kept fun g hg => hgr.block g (hA.row.lt g hg).2 ?_, (hk.drew).grown hgr fun k e hlt => ?_⟩
  · intro e
    cases e
    obtain ⟨cs, hc⟩ := hA.row.block m hg
    rw [hm] at hc; cases hc
  · cases e
    exact .inr (.inr (hmb hlt).symm)
/-- The cells of the box, and of the table. -/
theorem box_cells {w : World} {N : Nat} {t : ByteArray} {p q : Int} (h : w.heap[N]? = some (.cells #[.string t, .int .i64 p, .int .i64 q] 74 (0, 0))) : w.cell? ⟨N, 0, none⟩ = some (.string t) ∧ w.cell? ⟨N, 1, none⟩ = some (.int .i64 p) ∧ w.cell? ⟨N, 2, none⟩ = some (.int .i64 q) :=
  ⟨by rw [cell_of_row _ N 0 _ 74 (0, 0) h]; rfl, by rw [cell_of_row _ N 1 _ 74 (0, 0) h]; rfl, by rw [cell_of_row _ N 2 _ 74 (0, 0) h]; rfl⟩
theorem tab_cells {w : World} {K : Nat} {v u : Value} (h : w.heap[K]? = some (.cells #[v, u] 66 (0, 0))) : w.cell? ⟨K, 0, none⟩ = some v ∧ w.frozen? ⟨K, 0, none⟩ = false :=
  ⟨by rw [cell_of_row _ K 0 _ 66 (0, 0) h]; rfl, Lib.frozen_of_heap h 0⟩
theorem laid_facts {w2 : World} {K N : Nat} {v u : Value} {t : ByteArray} {p q : Int} (hK : w2.heap[K]? = some (.cells #[v, u] 66 (0, 0))) (hN : w2.heap[N]? = some (.cells #[.string t, .int .i64 p, .int .i64 q] 74 (0, 0))) (o : Obj) :
    (w2.alloc o).drew.heap[K]? = some (.cells #[v, u] 66 (0, 0)) ∧ (w2.alloc o).drew.heap[N]? = some (.cells #[.string t, .int .i64 p, .int .i64 q] 74 (0, 0)) :=
  ⟨(Below.heap_alloc w2 o K (Array.getElem?_eq_some_iff.1 hK).1).trans hK, (Below.heap_alloc w2 o N (Array.getElem?_eq_some_iff.1 hN).1).trans hN⟩
theorem grown_facts {w2 w3 : World} {K N : Nat} {v u : Value} {t : ByteArray} {p q : Int} {J : List Joint} (hK : w2.heap[K]? = some (.cells #[v, u] 66 (0, 0))) (hN : w2.heap[N]? = some (.cells #[.string t, .int .i64 p, .int .i64 q] 74 (0, 0))) (hrow : ownE jointE w2 0 v J) (hV : some N ≠ v.ownBlock)
    (hgr : w2.grownBy w3 v.ownBlock) : w3.heap[K]? = some (.cells #[v, u] 66 (0, 0)) ∧ w3.heap[N]? = some (.cells #[.string t, .int .i64 p, .int .i64 q] 74 (0, 0)) := by
  refine ⟨(hgr.block K (Array.getElem?_eq_some_iff.1 hK).1 fun e => ?_).trans hK, (hgr.block N (Array.getElem?_eq_some_iff.1 hN).1 hV).trans hN⟩
  obtain ⟨cs, hc⟩ := hrow.block K e.symm
  rw [hK] at hc; cases hc
set_option maxRecDepth 100000 in
set_option maxHeartbeats 2000000 in
theorem sadd_some (K m : Nat) (v : Value) (J : List Joint) (t : ByteArray) (p q : Int) (w : World) (h : Stab w K v (some m) J) (hJ : J.length ≤ 900000) (ht : t.size ≤ 9223372036854775807) (hn : ∀ q ∈ J, q.1 ≠ t) (hg : Good (J ++ [(t, p, q)])) :
    Calls Try.prog 28 #[.pointer (some ⟨K, 0, none⟩), jointV (t, p, q)] w fun e w' => e = .returned (.int .i64 ((256 + J.length : Nat) : Int)) ∧ JoinRet K v (some m) (J ++ [(t, p, q)]) w w' := by
  have HB : Hid (Below w.heap.size w (w.alloc (.cells #[.string t, .int .i64 p, .int .i64 q] 74))) := Lib.hid ((Below.refl _ w).alloc (Nat.le_refl _) _)
  have HA := Lib.hid (h.below HB.out)
  obtain ⟨N, hN⟩ : ∃ N, w.heap.size = N := ⟨_, rfl⟩
  have hem := eqMap_some m
  obtain ⟨wb, hwb⟩ : ∃ wb, w.alloc (.cells #[.string t, .int .i64 p, .int .i64 q] 74) = wb := ⟨_, rfl⟩
  have HN : Hid (wb.heap[N]? = some (.cells #[.string t, .int .i64 p, .int .i64 q] 74 (0, 0))) := Lib.hid (by rw [← hwb, ← hN]; exact heap_alloc_new w _)
  have HV : Hid (some N ≠ v.ownBlock) := Lib.hid fun e => by have := (h.row.lt N e.symm).2; omega
  have HKp : Hid (Kept (mineT K v (some m)) w wb) := Lib.hid (by rw [← hwb]; exact (Kept.refl _ w).alloc _)
  have HLen : Hid ((J ++ [(t, p, q)]).length = J.length + 1) := Lib.hid (by simp)
  clear h
  rw [hwb] at HA HB
  obtain ⟨c0, c1, f0, f1⟩ := HA.out.cell
  obtain ⟨b0, b1, b2⟩ := box_cells HN.out
  obtain ⟨L, hm, hL⟩ := HA.out.map
  have cL := slen_any K v (some m) J wb HA.out (by omega)
  obtain ⟨c, hc⟩ : ∃ c : Int, ((256 + J.length : Nat) : Int) = c := ⟨_, rfl⟩
  rw [hc] at cL ⊢
  obtain ⟨w2, hput, hmap, hgr⟩ := put_run (w := wb.drew) (hL.kept fun _ _ => rfl) hm.1 t c ht (by have := hm.2.1; omega) (by omega) (by omega)
  have HM : Hid (MapOf (J ++ [(t, p, q)]) (putW t c L)) := Lib.hid (by rw [← hc]; exact mapOf_more hm hn)
  have HMap := Lib.hid hmap
  obtain ⟨k1, k2, k3, k4⟩ := put_facts HA.out HN.out HKp.out (fun _ => rfl) hgr
  obtain ⟨d0, g0⟩ := tab_cells k1
  obtain ⟨e0, e1, e2⟩ := box_cells k2
  obtain ⟨d1, _, _⟩ : w2.cell? ⟨K, 1, none⟩ = some (.map (some m)) ∧ True ∧ True := ⟨by rw [cell_of_row _ K 1 _ 66 (0, 0) k1]; rfl, trivial, trivial⟩
  have H1 := Lib.hid k1; have H2 := Lib.hid k2; have H3 := Lib.hid k3; have H4 := Lib.hid k4
  clear hm hL hmap hgr hc k1 k2 k3 k4
  unfold jointV
  go_enter Try.func28, Try.ntmps28
  go_wp2_with (go_at_call 36; refine cL.mono ?_; rintro e w1 ⟨rfl, rfl⟩)
  go_region_held3 (fun w' => w'.cell? ⟨K, 1, none⟩ = some (.map (some m)) ∧ w'.cell? ⟨N, 0, none⟩ = some (.string t)) (first | exact ⟨c1, b0⟩ | exact ⟨d1, e0⟩) (fail)
  go_wp2
  obtain ⟨l1, l2⟩ := laid_facts H1.out H2.out (.cells #[.string t, .int .i64 p, .int .i64 q] 74)
  have L1 := Lib.hid l1; have L2 := Lib.hid l2
  obtain ⟨x0, y0⟩ := tab_cells l1
  obtain ⟨x1, x2, x3⟩ := box_cells l2
  have L3 : Hid (ownE jointE (w2.alloc (.cells #[.string t, .int .i64 p, .int .i64 q] 74)).drew 0 v J) := Lib.hid (H3.out.alloc _).drew
  clear l1 l2
  go_region_law
    (first | (refine step_append_elts jointE rfl (.tmp 28) (.tmp 30) rfl 0 v (.slice (some ⟨w2.heap.size, 0, none⟩) 1 1) J [(t, p, q)] rfl rfl L3.out (one_elt jointE w2 (t, p, q)) (someNone _ _ _) (by simp; omega) (Nat.zero_le _) ?_; intro r w3 ho3 hgr3 hb3; obtain ⟨ra, rc, rfl, _⟩ := ho3.form; rw [HLen.out] at ho3 hb3; obtain ⟨m1, m2⟩ := grown_facts L1.out L2.out L3.out HV.out hgr3; obtain ⟨z0, zf⟩ := tab_cells m1; have HO3 := Lib.hid ho3; have HG3 := Lib.hid hgr3; have HB3 := Lib.hid hb3; clear m1 m2 ho3 hgr3 hb3))
  all_goals (
    go_wp2
    go_ret
    exact ⟨rfl, add_last H1.out hg H3.out HMap.out HM.out H4.out (fun _ => rfl) HO3.out HG3.out HB3.out⟩)
set_option maxRecDepth 100000 in
set_option maxHeartbeats 2000000 in
theorem sadd_none (K : Nat) (v : Value) (J : List Joint) (t : ByteArray) (p q : Int) (w : World) (h : Stab w K v none J) (hJ : J.length ≤ 900000) (ht : t.size ≤ 9223372036854775807) (hn : ∀ q ∈ J, q.1 ≠ t) (hg : Good (J ++ [(t, p, q)])) :
    Calls Try.prog 28 #[.pointer (some ⟨K, 0, none⟩), jointV (t, p, q)] w fun e w' => e = .returned (.int .i64 ((256 + J.length : Nat) : Int)) ∧ JoinRet K v none (J ++ [(t, p, q)]) w w' := by
  obtain ⟨N, hN⟩ : ∃ N, w.heap.size = N := ⟨_, rfl⟩
  obtain ⟨wa, hwa⟩ : ∃ wa, w.alloc (.cells #[.string t, .int .i64 p, .int .i64 q] 74) = wa := ⟨_, rfl⟩
  have hBa : Below w.heap.size w wa := by rw [← hwa]; exact (Below.refl _ w).alloc (Nat.le_refl _) _
  have hNa : wa.heap[N]? = some (.cells #[.string t, .int .i64 p, .int .i64 q] 74 (0, 0)) := by rw [← hwa, ← hN]; exact heap_alloc_new w _
  have hAa := h.below hBa
  obtain ⟨m, hm⟩ : ∃ m, wa.heap.size = m := ⟨_, rfl⟩
  have hNm : N < m := by rw [← hm]; exact (Array.getElem?_eq_some_iff.1 hNa).1
  have hKm : K < N := by rw [← hN]; exact h.lt K (.inl rfl)
  have hem := eqMap_none
  have hmm := @run_makeMap Try.prog
  obtain ⟨p0, p1, q0, q1⟩ := hAa.cell
  have hc2 : (wa.alloc (.map #[] 0)).cell? ⟨K, 1, none⟩ = some (.map none) := by rw [← p1]; exact ((Below.refl _ wa).alloc (Nat.le_refl _) _).cell (show K < wa.heap.size by omega)
  have hf2 : (wa.alloc (.map #[] 0)).frozen? ⟨K, 1, none⟩ = false := Lib.frozen_of_heap ((Below.heap_alloc wa _ K (by omega)).trans hAa.cells) 1
  have hMd := made_stab hAa
  rw [hm] at hMd
  obtain ⟨wb, hwb⟩ : ∃ wb, (wa.alloc (.map #[] 0)).setCell ⟨K, 1, none⟩ (.map (some m)) = wb := ⟨_, rfl⟩
  have HA : Hid (Stab wb K v (some m) J) := Lib.hid (by rw [← hwb]; exact hMd)
  have HN : Hid (wb.heap[N]? = some (.cells #[.string t, .int .i64 p, .int .i64 q] 74 (0, 0))) := Lib.hid (by
    rw [← hwb, Below.heap_setCell _ _ _ _ (show N ≠ K by omega)]
    exact (Below.heap_alloc wa _ N (by omega)).trans hNa)
  have HV : Hid (some N ≠ v.ownBlock) := Lib.hid fun e => by have := (h.row.lt N e.symm).2; omega
  have HKp : Hid (Kept (mineT K v none) w wb) := Lib.hid (by rw [← hwb, ← hwa]; exact ((((Kept.refl _ w).alloc _).alloc _).setCell _ _ fun _ => .inl rfl))
  have HMB : Hid (¬ m < w.heap.size) := Lib.hid (by omega)
  have HLen : Hid ((J ++ [(t, p, q)]).length = J.length + 1) := Lib.hid (by simp)
  clear h hMd hAa hNa hBa
  obtain ⟨c0, c1, f0, f1⟩ := HA.out.cell
  obtain ⟨b0, b1, b2⟩ := box_cells HN.out
  obtain ⟨L, hm, hL⟩ := HA.out.map
  have cL := slen_any K v (some m) J wb HA.out (by omega)
  obtain ⟨c, hc⟩ : ∃ c : Int, ((256 + J.length : Nat) : Int) = c := ⟨_, rfl⟩
  rw [hc] at cL ⊢
  obtain ⟨w2, hput, hmap, hgr⟩ := put_run (w := wb.drew) (hL.kept fun _ _ => rfl) hm.1 t c ht (by have := hm.2.1; omega) (by omega) (by omega)
  have HM : Hid (MapOf (J ++ [(t, p, q)]) (putW t c L)) := Lib.hid (by rw [← hc]; exact mapOf_more hm hn)
  have HMap := Lib.hid hmap
  obtain ⟨k1, k2, k3, k4⟩ := put_facts HA.out HN.out HKp.out (fun k => absurd k HMB.out) hgr
  obtain ⟨d0, g0⟩ := tab_cells k1
  obtain ⟨e0, e1, e2⟩ := box_cells k2
  obtain ⟨d1, _, _⟩ : w2.cell? ⟨K, 1, none⟩ = some (.map (some m)) ∧ True ∧ True := ⟨by rw [cell_of_row _ K 1 _ 66 (0, 0) k1]; rfl, trivial, trivial⟩
  have H1 := Lib.hid k1; have H2 := Lib.hid k2; have H3 := Lib.hid k3; have H4 := Lib.hid k4
  clear hm hL hmap hgr hc k1 k2 k3 k4
  unfold jointV
  go_enter Try.func28, Try.ntmps28
  go_wp2_with (go_at_call 36; refine cL.mono ?_; rintro e w1 ⟨rfl, rfl⟩)
  go_region_held3 (fun w' => w'.cell? ⟨K, 1, none⟩ = some (.map (some m)) ∧ w'.cell? ⟨N, 0, none⟩ = some (.string t)) (first | exact ⟨c1, b0⟩ | exact ⟨d1, e0⟩) (fail)
  go_wp2
  obtain ⟨l1, l2⟩ := laid_facts H1.out H2.out (.cells #[.string t, .int .i64 p, .int .i64 q] 74)
  have L1 := Lib.hid l1; have L2 := Lib.hid l2
  obtain ⟨x0, y0⟩ := tab_cells l1
  obtain ⟨x1, x2, x3⟩ := box_cells l2
  have L3 : Hid (ownE jointE (w2.alloc (.cells #[.string t, .int .i64 p, .int .i64 q] 74)).drew 0 v J) := Lib.hid (H3.out.alloc _).drew
  clear l1 l2
  go_region_law
    (first | (refine step_append_elts jointE rfl (.tmp 28) (.tmp 30) rfl 0 v (.slice (some ⟨w2.heap.size, 0, none⟩) 1 1) J [(t, p, q)] rfl rfl L3.out (one_elt jointE w2 (t, p, q)) (someNone _ _ _) (by simp; omega) (Nat.zero_le _) ?_; intro r w3 ho3 hgr3 hb3; obtain ⟨ra, rc, rfl, _⟩ := ho3.form; rw [HLen.out] at ho3 hb3; obtain ⟨m1, m2⟩ := grown_facts L1.out L2.out L3.out HV.out hgr3; obtain ⟨z0, zf⟩ := tab_cells m1; have HO3 := Lib.hid ho3; have HG3 := Lib.hid hgr3; have HB3 := Lib.hid hb3; clear m1 m2 ho3 hgr3 hb3))
  all_goals (
    go_wp2
    go_ret
    exact ⟨rfl, add_last H1.out hg H3.out HMap.out HM.out H4.out (fun k => absurd k HMB.out) HO3.out HG3.out HB3.out⟩)
theorem sadd_any (K : Nat) (v : Value) (b : Option Nat) (J : List Joint) (t : ByteArray) (p q : Int) (w : World) (h : Stab w K v b J) (hJ : J.length ≤ 900000) (ht : t.size ≤ 9223372036854775807) (hn : ∀ q ∈ J, q.1 ≠ t) (hg : Good (J ++ [(t, p, q)])) :
    Calls Try.prog 28 #[.pointer (some ⟨K, 0, none⟩), jointV (t, p, q)] w fun e w' => e = .returned (.int .i64 ((256 + J.length : Nat) : Int)) ∧ JoinRet K v b (J ++ [(t, p, q)]) w w' := by
  cases b with
  | none => exact sadd_none K v J t p q w h hJ ht hn hg
  | some m => exact sadd_some K m v J t p q w h hJ ht hn hg
end Go.Proofs.Ythjblamfkfclhaa
