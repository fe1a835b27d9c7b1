/- Texts in one: SAdd, SJoin, SMerges. -/
import Derived.Test.YtnmacalbbmeedaaGreatQ23
import Derived.Deep.RegionHeld3
/- A symbol is put behind all others. -/
namespace Go.Proofs.YtnmacalbbmeedaaGreat
open Go.RowKit Go.Maps

/-- What Join leaves: the table has the symbols J; no block but its own has turned, and its blocks are those that it had, or new ones. -/
def JoinRet (K : Nat) (v : Value) (b : Option Nat) (J : List Joint) (w w' : World) : Prop :=
  ∃ v' b', Stab w' K v' b' J ∧ Kept (mineT K v b) w w' ∧ ∀ k, mineT K v' b' k → k < w.heap.size → mineT K v b k
set_option maxRecDepth 100000 in
theorem JoinRet.refl {K : Nat} {v : Value} {b : Option Nat} {J : List Joint} {w : World} (h : Stab w K v b J) : JoinRet K v b J w w := ⟨v, b, h, Kept.refl _ _, fun _ h _ => h⟩
set_option maxRecDepth 100000 in
theorem JoinRet.below {K : Nat} {v : Value} {b : Option Nat} {J : List Joint} {w w' : World} (h : Stab w K v b J) (hb : Below w.heap.size w w') : JoinRet K v b J w w' := ⟨v, b, h.below hb, Kept.of_below hb (Nat.le_refl _), fun _ h _ => h⟩
set_option maxRecDepth 100000 in
theorem JoinRet.after {K : Nat} {v : Value} {b : Option Nat} {J : List Joint} {w w1 w' : World} (hb : Below w.heap.size w w1) (h : JoinRet K v b J w1 w') : JoinRet K v b J w w' := by
  obtain ⟨v', b', h1, h2, h3⟩ := h
  exact ⟨v', b', h1, (Kept.of_below hb (Nat.le_refl _)).trans h2 fun i _ hm => hm, fun k hk hlt => h3 k hk (Nat.lt_of_lt_of_le hlt hb.size)⟩
set_option maxRecDepth 100000 in
/-- A map made and laid into the table. -/
theorem made_stab {w : World} {K : Nat} {v : Value} {J : List Joint} (h : Stab w K v none J) : Stab ((w.alloc (.map #[] 0)).setCell ⟨K, 1, none⟩ (.map (some w.heap.size))) K v (some w.heap.size) J := by
  have hK := h.lt K (.inl rfl)
  obtain ⟨L, hm, hL⟩ := h.map
  have hL0 : L = [] := hL
  subst hL0
  have hJ := mapOf_none hm
  subst hJ
  have h1 : (w.alloc (.map #[] 0)).heap[K]? = some (.cells #[v, .map none] 107 (0, 0)) := (Below.heap_alloc w _ K hK).trans h.cells
  refine ⟨heap_setCell_at h1 _, good_nil, h.row.kept fun g hg => ?_, [], mapOf_nil, ?_⟩
  · have hg1 := (h.row.lt g hg).2
    obtain ⟨cs, hc⟩ := h.row.block g hg
    rw [Below.heap_setCell _ _ _ _ (show g ≠ K by rintro rfl; rw [h.cells] at hc; cases hc)]
    exact Below.heap_alloc w _ g hg1
  · exact (World.ownsMap_made w Tryz.prog 9 (plainElem (H := Unit) Tryz.prog 3)).setCell (by show w.heap.size ≠ K; omega) _
set_option maxRecDepth 100000 in
/-- The last step: the row is longer by one, and is laid into the table. -/
theorem add_last {w w2 w3 : World} {K m : Nat} {v r : Value} {b : Option Nat} {J : List Joint} {x : Joint} {L : Bag} {o : Obj} (hK : w2.heap[K]? = some (.cells #[v, .map (some m)] 107 (0, 0))) (hg : Good (J ++ [x])) (hrow : ownE jointE w2 0 v J)
    (hmap : mapIs w2 (some m) L) (hM : MapOf (J ++ [x]) L) (hk : Kept (mineT K v b) w w2) (hmb : m < w.heap.size → b = some m) (ho : ownE jointE w3 0 r (J ++ [x])) (hgr : (w2.alloc o).drew.grownBy w3 v.ownBlock)
    (hb : r.ownBlock = v.ownBlock ∨ r.ownBlock = some (w2.alloc o).drew.heap.size) : JoinRet K v b (J ++ [x]) w (w3.setCell ⟨K, 0, none⟩ r) := by
  have hK2 := (Array.getElem?_eq_some_iff.1 hK).1
  have hm2 := hmap.lt
  have hs : (w2.alloc o).drew.heap.size = w2.heap.size + 1 := by show (w2.alloc o).heap.size = _; rw [World.size_alloc]
  have old : ∀ k, k < w2.heap.size → some k ≠ v.ownBlock → w3.heap[k]? = w2.heap[k]? := fun k hk hne => (hgr.block k (by omega) hne).trans (Below.heap_alloc w2 o k hk)
  have nK : some K ≠ v.ownBlock := fun e => by
    obtain ⟨cs, hc⟩ := hrow.block K e.symm
    rw [hK] at hc; cases hc
  have nm : some m ≠ v.ownBlock := fun e => by
    obtain ⟨cs, hc⟩ := hrow.block m e.symm
    obtain ⟨es, cl, hb⟩ := hmap.block
    rw [hb] at hc; cases hc
  have h3 := (old K hK2 nK).trans hK
  have nr : ∀ g, r.ownBlock = some g → g ≠ K := fun g hg e => by
    obtain ⟨cs, hc⟩ := ho.block g hg
    rw [e, h3] at hc; cases hc
  have mK : m ≠ K := fun e => by
    obtain ⟨es, cl, hb⟩ := hmap.block
    rw [e, hK] at hb; cases hb
  refine ⟨r, some m, ⟨heap_setCell_at h3 r, hg, ho.kept fun g hg => Below.heap_setCell _ _ _ _ (nr g hg), L, hM, hmap.kept fun m' e => ?_⟩, ?_, ?_⟩
  · cases e
    rw [Below.heap_setCell _ _ _ _ mK]
    exact old m hm2 nm
  · refine Kept.setCell ?_ _ _ fun _ => .inl rfl
    refine Kept.grown ((hk.alloc o).drew) hgr fun k e _ => .inr (.inl e.symm)
  · rintro k (e | e | e) hlt
    · exact .inl e
    · rcases hb with hb | hb
      · exact .inr (.inl (by rw [e, hb]))
      · rw [hb] at e
        cases e
        have := hk.size
        omega
    · cases e
      exact .inr (.inr (hmb hlt).symm)
set_option maxRecDepth 100000 in
/-- What stands behind the map's making. -/
theorem put_facts {w wb w2 : World} {K N m : Nat} {v : Value} {b : Option Nat} {J : List Joint} {t : ByteArray} {p q : Int} (hA : Stab wb K v (some m) J) (hN : wb.heap[N]? = some (.cells #[.string t, .int .i64 p, .int .i64 q] 129 (0, 0)))
    (hk : Kept (mineT K v b) w wb) (hmb : m < w.heap.size → b = some m) (hgr : wb.drew.grownBy w2 (some m)) :
    w2.heap[K]? = some (.cells #[v, .map (some m)] 107 (0, 0)) ∧ w2.heap[N]? = some (.cells #[.string t, .int .i64 p, .int .i64 q] 129 (0, 0)) ∧ ownE jointE w2 0 v J ∧ Kept (mineT K v b) w w2 := by
  obtain ⟨L, _, hL⟩ := hA.map
  obtain ⟨es, cl, hm⟩ := hL.block
  have hK2 := (Array.getElem?_eq_some_iff.1 hA.cells).1
  have hN2 := (Array.getElem?_eq_some_iff.1 hN).1
  have nK : some K ≠ some m := fun e => by cases e; rw [hA.cells] at hm; cases hm
  have nN : some N ≠ some m := fun e => by cases e; rw [hN] at hm; cases hm
  refine ⟨(hgr.block K hK2 nK).trans hA.cells, (hgr.block N hN2 nN).trans hN, hA.row.kept fun g hg => hgr.block g (hA.row.lt g hg).2 ?_, (hk.drew).grown hgr fun k e hlt => ?_⟩
  · intro e
    cases e
    obtain ⟨cs, hc⟩ := hA.row.block m hg
    rw [hm] at hc; cases hc
  · cases e
    exact .inr (.inr (hmb hlt).symm)
set_option maxRecDepth 100000 in
/-- The cells of the box, and of the table. -/
theorem box_cells {w : World} {N : Nat} {t : ByteArray} {p q : Int} (h : w.heap[N]? = some (.cells #[.string t, .int .i64 p, .int .i64 q] 129 (0, 0))) : w.cell? ⟨N, 0, none⟩ = some (.string t) ∧ w.cell? ⟨N, 1, none⟩ = some (.int .i64 p) ∧ w.cell? ⟨N, 2, none⟩ = some (.int .i64 q) :=
  ⟨by rw [cell_of_row _ N 0 _ 129 (0, 0) h]; rfl, by rw [cell_of_row _ N 1 _ 129 (0, 0) h]; rfl, by rw [cell_of_row _ N 2 _ 129 (0, 0) h]; rfl⟩
set_option maxRecDepth 100000 in
theorem tab_cells {w : World} {K : Nat} {v u : Value} (h : w.heap[K]? = some (.cells #[v, u] 107 (0, 0))) : w.cell? ⟨K, 0, none⟩ = some v ∧ w.frozen? ⟨K, 0, none⟩ = false :=
  ⟨by rw [cell_of_row _ K 0 _ 107 (0, 0) h]; rfl, Lib.frozen_of_heap h 0⟩
set_option maxRecDepth 100000 in
theorem laid_facts {w2 : World} {K N : Nat} {v u : Value} {t : ByteArray} {p q : Int} (hK : w2.heap[K]? = some (.cells #[v, u] 107 (0, 0))) (hN : w2.heap[N]? = some (.cells #[.string t, .int .i64 p, .int .i64 q] 129 (0, 0))) (o : Obj) :
    (w2.alloc o).drew.heap[K]? = some (.cells #[v, u] 107 (0, 0)) ∧ (w2.alloc o).drew.heap[N]? = some (.cells #[.string t, .int .i64 p, .int .i64 q] 129 (0, 0)) :=
  ⟨(Below.heap_alloc w2 o K (Array.getElem?_eq_some_iff.1 hK).1).trans hK, (Below.heap_alloc w2 o N (Array.getElem?_eq_some_iff.1 hN).1).trans hN⟩
set_option maxRecDepth 100000 in
theorem grown_facts {w2 w3 : World} {K N : Nat} {v u : Value} {t : ByteArray} {p q : Int} {J : List Joint} (hK : w2.heap[K]? = some (.cells #[v, u] 107 (0, 0))) (hN : w2.heap[N]? = some (.cells #[.string t, .int .i64 p, .int .i64 q] 129 (0, 0))) (hrow : ownE jointE w2 0 v J) (hV : some N ≠ v.ownBlock)
    (hgr : w2.grownBy w3 v.ownBlock) : w3.heap[K]? = some (.cells #[v, u] 107 (0, 0)) ∧ w3.heap[N]? = some (.cells #[.string t, .int .i64 p, .int .i64 q] 129 (0, 0)) := by
  refine ⟨(hgr.block K (Array.getElem?_eq_some_iff.1 hK).1 fun e => ?_).trans hK, (hgr.block N (Array.getElem?_eq_some_iff.1 hN).1 hV).trans hN⟩
  obtain ⟨cs, hc⟩ := hrow.block K e.symm
  rw [hK] at hc; cases hc
set_option maxRecDepth 100000 in
set_option maxHeartbeats 2000000 in
theorem sadd_some (K m : Nat) (v : Value) (J : List Joint) (t : ByteArray) (p q : Int) (w : World) (h : Stab w K v (some m) J) (hJ : J.length ≤ 900000) (ht : t.size ≤ 9223372036854775807) (hn : ∀ q ∈ J, q.1 ≠ t) (hg : Good (J ++ [(t, p, q)])) :
    Calls Tryz.prog 81 #[.pointer (some ⟨K, 0, none⟩), jointV (t, p, q)] w fun e w' => e = .returned (.int .i64 ((256 + J.length : Nat) : Int)) ∧ JoinRet K v (some m) (J ++ [(t, p, q)]) w w' := by
  have HB : Hid (Below w.heap.size w (w.alloc (.cells #[.string t, .int .i64 p, .int .i64 q] 129))) := Lib.hid ((Below.refl _ w).alloc (Nat.le_refl _) _)
  have HA := Lib.hid (h.below HB.out)
  obtain ⟨N, hN⟩ : ∃ N, w.heap.size = N := ⟨_, rfl⟩
  have hem := eqMap_some m
  obtain ⟨wb, hwb⟩ : ∃ wb, w.alloc (.cells #[.string t, .int .i64 p, .int .i64 q] 129) = wb := ⟨_, rfl⟩
  have HN : Hid (wb.heap[N]? = some (.cells #[.string t, .int .i64 p, .int .i64 q] 129 (0, 0))) := Lib.hid (by rw [← hwb, ← hN]; exact heap_alloc_new w _)
  have HV : Hid (some N ≠ v.ownBlock) := Lib.hid fun e => by have := (h.row.lt N e.symm).2; omega
  have HKp : Hid (Kept (mineT K v (some m)) w wb) := Lib.hid (by rw [← hwb]; exact (Kept.refl _ w).alloc _)
  have HLen : Hid ((J ++ [(t, p, q)]).length = J.length + 1) := Lib.hid (by simp)
  clear h
  rw [hwb] at HA HB
  obtain ⟨c0, c1, f0, f1⟩ := HA.out.cell
  obtain ⟨b0, b1, b2⟩ := box_cells HN.out
  obtain ⟨L, hm, hL⟩ := HA.out.map
  have cL := slen_any K v (some m) J wb HA.out (by omega)
  obtain ⟨c, hc⟩ : ∃ c : Int, ((256 + J.length : Nat) : Int) = c := ⟨_, rfl⟩
  rw [hc] at cL ⊢
  obtain ⟨w2, hput, hmap, hgr⟩ := put_run (w := wb.drew) (hL.kept fun _ _ => rfl) hm.1 t c ht (by have := hm.2.1; omega) (by omega) (by omega)
  have HM : Hid (MapOf (J ++ [(t, p, q)]) (putW t c L)) := Lib.hid (by rw [← hc]; exact mapOf_more hm hn)
  have HMap := Lib.hid hmap
  obtain ⟨k1, k2, k3, k4⟩ := put_facts HA.out HN.out HKp.out (fun _ => rfl) hgr
  obtain ⟨d0, g0⟩ := tab_cells k1
  obtain ⟨e0, e1, e2⟩ := box_cells k2
  obtain ⟨d1, _, _⟩ : w2.cell? ⟨K, 1, none⟩ = some (.map (some m)) ∧ True ∧ True := ⟨by rw [cell_of_row _ K 1 _ 107 (0, 0) k1]; rfl, trivial, trivial⟩
  have H1 := Lib.hid k1; have H2 := Lib.hid k2; have H3 := Lib.hid k3; have H4 := Lib.hid k4
  clear hm hL hmap hgr hc k1 k2 k3 k4
  unfold jointV
  go_enter Tryz.func81, Tryz.ntmps81
  go_wp2_with (go_at_call 101; refine cL.mono ?_; rintro e w1 ⟨rfl, rfl⟩)
  go_region_held3 (fun w' => w'.cell? ⟨K, 1, none⟩ = some (.map (some m)) ∧ w'.cell? ⟨N, 0, none⟩ = some (.string t)) (first | exact ⟨c1, b0⟩ | exact ⟨d1, e0⟩) (fail)
  go_wp2
  obtain ⟨l1, l2⟩ := laid_facts H1.out H2.out (.cells #[.string t, .int .i64 p, .int .i64 q] 129)
  have L1 := Lib.hid l1; have L2 := Lib.hid l2
  obtain ⟨x0, y0⟩ := tab_cells l1
  obtain ⟨x1, x2, x3⟩ := box_cells l2
  have L3 : Hid (ownE jointE (w2.alloc (.cells #[.string t, .int .i64 p, .int .i64 q] 129)).drew 0 v J) := Lib.hid (H3.out.alloc _).drew
  clear l1 l2
  go_region_law
    (first | (refine step_append_elts jointE rfl (.tmp 28) (.tmp 30) rfl 0 v (.slice (some ⟨w2.heap.size, 0, none⟩) 1 1) J [(t, p, q)] rfl rfl L3.out (one_elt jointE w2 (t, p, q)) (someNone _ _ _) (by simp; omega) (Nat.zero_le _) ?_; intro r w3 ho3 hgr3 hb3; obtain ⟨ra, rc, rfl, _⟩ := ho3.form; rw [HLen.out] at ho3 hb3; obtain ⟨m1, m2⟩ := grown_facts L1.out L2.out L3.out HV.out hgr3; obtain ⟨z0, zf⟩ := tab_cells m1; have HO3 := Lib.hid ho3; have HG3 := Lib.hid hgr3; have HB3 := Lib.hid hb3; clear m1 m2 ho3 hgr3 hb3))
  all_goals (
    go_wp2
    go_ret
    exact ⟨rfl, add_last H1.out hg H3.out HMap.out HM.out H4.out (fun _ => rfl) HO3.out HG3.out HB3.out⟩)
set_option maxRecDepth 100000 in
set_option maxHeartbeats 2000000 in
theorem sadd_none (K : Nat) (v : Value) (J : List Joint) (t : ByteArray) (p q : Int) (w : World) (h : Stab w K v none J) (hJ : J.length ≤ 900000) (ht : t.size ≤ 9223372036854775807) (hn : ∀ q ∈ J, q.1 ≠ t) (hg : Good (J ++ [(t, p, q)])) :
    Calls Tryz.prog 81 #[.pointer (some ⟨K, 0, none⟩), jointV (t, p, q)] w fun e w' => e = .returned (.int .i64 ((256 + J.length : Nat) : Int)) ∧ JoinRet K v none (J ++ [(t, p, q)]) w w' := by
  obtain ⟨N, hN⟩ : ∃ N, w.heap.size = N := ⟨_, rfl⟩
  obtain ⟨wa, hwa⟩ : ∃ wa, w.alloc (.cells #[.string t, .int .i64 p, .int .i64 q] 129) = wa := ⟨_, rfl⟩
  have hBa : Below w.heap.size w wa := by rw [← hwa]; exact (Below.refl _ w).alloc (Nat.le_refl _) _
  have hNa : wa.heap[N]? = some (.cells #[.string t, .int .i64 p, .int .i64 q] 129 (0, 0)) := by rw [← hwa, ← hN]; exact heap_alloc_new w _
  have hAa := h.below hBa
  obtain ⟨m, hm⟩ : ∃ m, wa.heap.size = m := ⟨_, rfl⟩
  have hNm : N < m := by rw [← hm]; exact (Array.getElem?_eq_some_iff.1 hNa).1
  have hKm : K < N := by rw [← hN]; exact h.lt K (.inl rfl)
  have hem := eqMap_none
  have hmm := @run_makeMap Tryz.prog
  obtain ⟨p0, p1, q0, q1⟩ := hAa.cell
  have hc2 : (wa.alloc (.map #[] 0)).cell? ⟨K, 1, none⟩ = some (.map none) := by rw [← p1]; exact ((Below.refl _ wa).alloc (Nat.le_refl _) _).cell (show K < wa.heap.size by omega)
  have hf2 : (wa.alloc (.map #[] 0)).frozen? ⟨K, 1, none⟩ = false := Lib.frozen_of_heap ((Below.heap_alloc wa _ K (by omega)).trans hAa.cells) 1
  have hMd := made_stab hAa
  rw [hm] at hMd
  obtain ⟨wb, hwb⟩ : ∃ wb, (wa.alloc (.map #[] 0)).setCell ⟨K, 1, none⟩ (.map (some m)) = wb := ⟨_, rfl⟩
  have HA : Hid (Stab wb K v (some m) J) := Lib.hid (by rw [← hwb]; exact hMd)
  have HN : Hid (wb.heap[N]? = some (.cells #[.string t, .int .i64 p, .int .i64 q] 129 (0, 0))) := Lib.hid (by
    rw [← hwb, Below.heap_setCell _ _ _ _ (show N ≠ K by omega)]
    exact (Below.heap_alloc wa _ N (by omega)).trans hNa)
  have HV : Hid (some N ≠ v.ownBlock) := Lib.hid fun e => by have := (h.row.lt N e.symm).2; omega
  have HKp : Hid (Kept (mineT K v none) w wb) := Lib.hid (by rw [← hwb, ← hwa]; exact ((((Kept.refl _ w).alloc _).alloc _).setCell _ _ fun _ => .inl rfl))
  have HMB : Hid (¬ m < w.heap.size) := Lib.hid (by omega)
  have HLen : Hid ((J ++ [(t, p, q)]).length = J.length + 1) := Lib.hid (by simp)
  clear h hMd hAa hNa hBa
  obtain ⟨c0, c1, f0, f1⟩ := HA.out.cell
  obtain ⟨b0, b1, b2⟩ := box_cells HN.out
  obtain ⟨L, hm, hL⟩ := HA.out.map
  have cL := slen_any K v (some m) J wb HA.out (by omega)
  obtain ⟨c, hc⟩ : ∃ c : Int, ((256 + J.length : Nat) : Int) = c := ⟨_, rfl⟩
  rw [hc] at cL ⊢
  obtain ⟨w2, hput, hmap, hgr⟩ := put_run (w := wb.drew) (hL.kept fun _ _ => rfl) hm.1 t c ht (by have := hm.2.1; omega) (by omega) (by omega)
  have HM : Hid (MapOf (J ++ [(t, p, q)]) (putW t c L)) := Lib.hid (by rw [← hc]; exact mapOf_more hm hn)
  have HMap := Lib.hid hmap
  obtain ⟨k1, k2, k3, k4⟩ := put_facts HA.out HN.out HKp.out (fun k => absurd k HMB.out) hgr
  obtain ⟨d0, g0⟩ := tab_cells k1
  obtain ⟨e0, e1, e2⟩ := box_cells k2
  obtain ⟨d1, _, _⟩ : w2.cell? ⟨K, 1, none⟩ = some (.map (some m)) ∧ True ∧ True := ⟨by rw [cell_of_row _ K 1 _ 107 (0, 0) k1]; rfl, trivial, trivial⟩
  have H1 := Lib.hid k1; have H2 := Lib.hid k2; have H3 := Lib.hid k3; have H4 := Lib.hid k4
  clear hm hL hmap hgr hc k1 k2 k3 k4
  unfold jointV
  go_enter Tryz.func81, Tryz.ntmps81
  go_wp2_with (go_at_call 101; refine cL.mono ?_; rintro e w1 ⟨rfl, rfl⟩)
  go_region_held3 (fun w' => w'.cell? ⟨K, 1, none⟩ = some (.map (some m)) ∧ w'.cell? ⟨N, 0, none⟩ = some (.string t)) (first | exact ⟨c1, b0⟩ | exact ⟨d1, e0⟩) (fail)
  go_wp2
  obtain ⟨l1, l2⟩ := laid_facts H1.out H2.out (.cells #[.string t, .int .i64 p, .int .i64 q] 129)
  have L1 := Lib.hid l1; have L2 := Lib.hid l2
  obtain ⟨x0, y0⟩ := tab_cells l1
  obtain ⟨x1, x2, x3⟩ := box_cells l2
  have L3 : Hid (ownE jointE (w2.alloc (.cells #[.string t, .int .i64 p, .int .i64 q] 129)).drew 0 v J) := Lib.hid (H3.out.alloc _).drew
  clear l1 l2
  go_region_law
    (first | (refine step_append_elts jointE rfl (.tmp 28) (.tmp 30) rfl 0 v (.slice (some ⟨w2.heap.size, 0, none⟩) 1 1) J [(t, p, q)] rfl rfl L3.out (one_elt jointE w2 (t, p, q)) (someNone _ _ _) (by simp; omega) (Nat.zero_le _) ?_; intro r w3 ho3 hgr3 hb3; obtain ⟨ra, rc, rfl, _⟩ := ho3.form; rw [HLen.out] at ho3 hb3; obtain ⟨m1, m2⟩ := grown_facts L1.out L2.out L3.out HV.out hgr3; obtain ⟨z0, zf⟩ := tab_cells m1; have HO3 := Lib.hid ho3; have HG3 := Lib.hid hgr3; have HB3 := Lib.hid hb3; clear m1 m2 ho3 hgr3 hb3))
  all_goals (
    go_wp2
    go_ret
    exact ⟨rfl, add_last H1.out hg H3.out HMap.out HM.out H4.out (fun k => absurd k HMB.out) HO3.out HG3.out HB3.out⟩)
set_option maxRecDepth 100000 in
theorem sadd_any (K : Nat) (v : Value) (b : Option Nat) (J : List Joint) (t : ByteArray) (p q : Int) (w : World) (h : Stab w K v b J) (hJ : J.length ≤ 900000) (ht : t.size ≤ 9223372036854775807) (hn : ∀ q ∈ J, q.1 ≠ t) (hg : Good (J ++ [(t, p, q)])) :
    Calls Tryz.prog 81 #[.pointer (some ⟨K, 0, none⟩), jointV (t, p, q)] w fun e w' => e = .returned (.int .i64 ((256 + J.length : Nat) : Int)) ∧ JoinRet K v b (J ++ [(t, p, q)]) w w' := by
  cases b with
  | none => exact sadd_none K v J t p q w h hJ ht hn hg
  | some m => exact sadd_some K m v J t p q w h hJ ht hn hg
end Go.Proofs.YtnmacalbbmeedaaGreat
/- Join of a table of symbols. -/
namespace Go.Proofs.YtnmacalbbmeedaaGreat
open Go.RowKit Go.Maps

set_option maxRecDepth 100000 in
set_option maxHeartbeats 2000000 in
theorem sjoin_any (K : Nat) (v : Value) (b : Option Nat) (J : List Joint) (a c : Int) (w : World) (h : Stab w K v b J) (hJ : J.length ≤ 900000) (a0 : -9223372036854775808 ≤ a) (a1 : a ≤ 9223372036854775807) (c0 : -9223372036854775808 ≤ c) (c1 : c ≤ 9223372036854775807) :
    Calls Tryz.prog 56 #[.pointer (some ⟨K, 0, none⟩), .int .i64 a, .int .i64 c] w fun e w' => e = .returned (.tuple #[.int .i64 (joinOf J a c).1.1, .int .i64 (joinOf J a c).1.2]) ∧ JoinRet K v b (joinOf J a c).2 w w' := by
  have H := Lib.hid h
  have HG := Lib.hid h.good
  have cA := text_any K v b J a w h (by omega) a0 a1
  have cC := fun w1 (hb : Below w.heap.size w w1) => text_any K v b J c w1 (h.below hb) (by omega) c0 c1
  have sA := txt_le h.good a
  have sC := txt_le h.good c
  clear h
  cases h1 : (thereOf J a && thereOf J c) with
  | false =>
    rw [join_arg h1]
    generalize txtOf J a = x at *
    generalize txtOf J c = y at *
    generalize thereOf J a = ta at *
    generalize thereOf J c = tc at *
    go_enter Tryz.func56, Tryz.ntmps56
    go_wp2_with fail
    refine cA.mono ?_
    rintro e w1 ⟨rfl, hb1⟩
    have cC := cC w1 hb1
    have HB1 := Lib.hid hb1
    clear hb1
    go_wp2_with fail
    refine cC.mono ?_
    rintro e w2 ⟨rfl, hb2⟩
    have HB2 := Lib.hid (HB1.out.trans (hb2.mono HB1.out.size))
    clear hb2 cA cC
    cases ta with
    | false =>
      go_wp2
      go_ret2
      exact ⟨rfl, JoinRet.below H.out HB2.out⟩
    | true =>
      have : tc = false := by simpa using h1
      subst this
      go_wp2
      go_ret2
      exact ⟨rfl, JoinRet.below H.out HB2.out⟩
  | true =>
    obtain ⟨ha, hc⟩ := Bool.and_eq_true_iff.1 h1
    have hgood := good_join HG.out a c
    have HF0 : Hid (thereOf J a = true ∧ thereOf J c = true) := Lib.hid ⟨ha, hc⟩
    rw [ha] at cA
    rw [hc] at cC
    by_cases hl : 65536 < (txtOf J a).size + (txtOf J c).size
    · rw [join_long h1 hl]
      clear hgood
      generalize txtOf J a = x at *
      generalize txtOf J c = y at *
      have hlI : (65536 : Int) < (x.size : Int) + (y.size : Int) := by omega
      clear ha hc h1
      go_enter Tryz.func56, Tryz.ntmps56
      go_wp2_with fail
      refine cA.mono ?_
      rintro e w1 ⟨rfl, hb1⟩
      have cC := cC w1 hb1
      have HB1 := Lib.hid hb1
      clear hb1
      go_wp2_with fail
      refine cC.mono ?_
      rintro e w2 ⟨rfl, hb2⟩
      have HB2 := Lib.hid (HB1.out.trans (hb2.mono HB1.out.size))
      clear hb2 cA cC
      go_wp2
      go_ret2
      exact ⟨rfl, JoinRet.below H.out HB2.out⟩
    · have cF := fun w1 (hb : Below w.heap.size w w1) => sfind_any K v b J (txtOf J a ++ txtOf J c) w1 (H.out.below hb) (by rw [size_app]; omega)
      cases hf : (findOf J (txtOf J a ++ txtOf J c)).2 with
      | true =>
        rw [join_repeat h1 hl hf]
        rw [hf] at cF
        clear hgood hf
        generalize (findOf J (txtOf J a ++ txtOf J c)).1 = z at *
        generalize txtOf J a = x at *
        generalize txtOf J c = y at *
        have hlI : ¬ (65536 : Int) < (x.size : Int) + (y.size : Int) := by omega
        have hlN : ¬ 9223372036854775807 < x.size + y.size := by omega
        clear ha hc h1
        go_enter Tryz.func56, Tryz.ntmps56
        go_wp2_with fail
        refine cA.mono ?_
        rintro e w1 ⟨rfl, hb1⟩
        have cC := cC w1 hb1
        have HB1 := Lib.hid hb1
        clear hb1
        go_wp2_with fail
        refine cC.mono ?_
        rintro e w2 ⟨rfl, hb2⟩
        have HB2 := Lib.hid (HB1.out.trans (hb2.mono HB1.out.size))
        clear hb2 cA cC
        go_wp2_with fail
        refine (cF _ HB2.out).mono ?_
        rintro e w3 ⟨rfl, rfl⟩
        go_wp2
        go_ret2
        exact ⟨rfl, JoinRet.below H.out HB2.out⟩
      | false =>
        rw [join_new h1 hl hf] at hgood ⊢
        rw [hf] at cF
        have cS := fun w1 (hb : Below w.heap.size w w1) => sadd_any K v b J (txtOf J a ++ txtOf J c) a c w1 (H.out.below hb) hJ (by rw [size_app]; omega) (not_found hf) hgood
        clear hgood hf
        unfold jointV at cS
        generalize (findOf J (txtOf J a ++ txtOf J c)).1 = z at *
        generalize txtOf J a = x at *
        generalize txtOf J c = y at *
        have hlI : ¬ (65536 : Int) < (x.size : Int) + (y.size : Int) := by omega
        have hlN : ¬ 9223372036854775807 < x.size + y.size := by omega
        clear ha hc h1
        go_enter Tryz.func56, Tryz.ntmps56
        go_wp2_with fail
        refine cA.mono ?_
        rintro e w1 ⟨rfl, hb1⟩
        have cC := cC w1 hb1
        have HB1 := Lib.hid hb1
        clear hb1
        go_wp2_with fail
        refine cC.mono ?_
        rintro e w2 ⟨rfl, hb2⟩
        have HB2 := Lib.hid (HB1.out.trans (hb2.mono HB1.out.size))
        clear hb2 cA cC
        go_wp2_with fail
        refine (cF _ HB2.out).mono ?_
        rintro e w3 ⟨rfl, rfl⟩
        go_wp2_with fail
        refine (cS _ HB2.out).mono ?_
        rintro e w4 ⟨rfl, hr⟩
        have HR := Lib.hid (JoinRet.after HB2.out hr)
        clear hr
        go_wp2
        go_ret2
        exact ⟨rfl, HR.out⟩
end Go.Proofs.YtnmacalbbmeedaaGreat
/- Merges of a table of symbols. -/
namespace Go.Proofs.YtnmacalbbmeedaaGreat
open Go.RowKit Go.Maps

/-- A row that is filled up to place k. -/
def filledE {α : Type} (z : α) (Z : List α) (k : Nat) : List α := Z.take k ++ List.replicate (Z.length - k) z
set_option maxRecDepth 100000 in
theorem filledE_len {α : Type} {z : α} {Z : List α} {k : Nat} (hk : k ≤ Z.length) : (filledE z Z k).length = Z.length := by
  unfold filledE; rw [List.length_append, List.length_take, List.length_replicate]; omega
set_option maxRecDepth 100000 in
theorem filledE_zero {α : Type} (z : α) (Z : List α) : filledE z Z 0 = List.replicate Z.length z := by simp [filledE]
set_option maxRecDepth 100000 in
theorem filledE_all {α : Type} (z : α) (Z : List α) : filledE z Z Z.length = Z := by simp [filledE]
set_option maxRecDepth 100000 in
theorem filledE_at {α : Type} {z : α} {Z : List α} {k : Nat} (hk : k < Z.length) (h : k < (filledE z Z k).length) : (filledE z Z k)[k] = z := by
  refine (List.getElem_append_right (show (Z.take k).length ≤ k by rw [List.length_take]; omega)).trans ?_
  rw [List.getElem_replicate]
set_option maxRecDepth 100000 in
theorem filledE_step {α : Type} {z : α} {Z : List α} {k : Nat} (hk : k < Z.length) : (filledE z Z k).set k Z[k] = filledE z Z (k + 1) := by
  unfold filledE
  rw [List.set_append_right _ _ (by rw [List.length_take]; omega), List.length_take, Nat.min_eq_left (by omega), Nat.sub_self, List.take_succ_eq_append_getElem hk, List.append_assoc]
  have e : Z.length - k = (Z.length - (k + 1)) + 1 := by omega
  rw [e, List.replicate_succ]
  rfl
def noMerge : ByteArray × ByteArray := (⟨#[]⟩, ⟨#[]⟩)
def MergesRel (J : List Joint) (w : World) (g : Nat) (i : Value) (wr : World) : Prop := ∃ k : Nat, i = .int .i64 (k : Int) ∧ k ≤ J.length ∧ rowE mergeE wr g (filledE noMerge (mergesOf J) k) ∧ Below w.heap.size w wr
set_option maxRecDepth 100000 in
/-- One text of two is laid. -/
theorem left_row {J : List Joint} {wr : World} {g k : Nat} {x : ByteArray} (hk : k < J.length) (h : rowE mergeE wr g (filledE noMerge (mergesOf J) k)) : rowE mergeE (wr.setCell ⟨g, k * 2, none⟩ (.string x)) g ((filledE noMerge (mergesOf J) k).set k (x, ⟨#[]⟩)) := by
  have hk1 : k < (mergesOf J).length := by rw [merges_len]; exact hk
  have hk2 : k < (filledE noMerge (mergesOf J) k).length := by rw [filledE_len (by omega)]; exact hk1
  refine h.store (i := 0) (x, ⟨#[]⟩) hk2 (by decide) ?_
  rw [filledE_at hk1]
  rfl
set_option maxRecDepth 100000 in
theorem right_row {J : List Joint} {wr : World} {g k : Nat} (hk : k < J.length) (h : rowE mergeE wr g ((filledE noMerge (mergesOf J) k).set k (txtOf J J[k].2.1, ⟨#[]⟩))) :
    rowE mergeE (wr.setCell ⟨g, k * 2 + 1, none⟩ (.string (txtOf J J[k].2.2))) g (filledE noMerge (mergesOf J) (k + 1)) := by
  have hk1 : k < (mergesOf J).length := by rw [merges_len]; exact hk
  have hk2 : k < (filledE noMerge (mergesOf J) k).length := by rw [filledE_len (by omega)]; exact hk1
  have := h.store (u := .string (txtOf J J[k].2.2)) (i := 1) (txtOf J J[k].2.1, txtOf J J[k].2.2) (by rw [List.length_set]; exact hk2) (by decide) (by rw [List.getElem_set_self]; rfl)
  rw [List.set_set] at this
  have e : (mergesOf J)[k] = (txtOf J J[k].2.1, txtOf J J[k].2.2) := by simp [mergesOf]
  rw [← filledE_step hk1, e]
  exact this
set_option maxRecDepth 100000 in
theorem row_cell {w : World} {g k : Nat} {L : List (ByteArray × ByteArray)} (h : rowE mergeE w g L) (hk : k < L.length) : (∃ u, w.cell? ⟨g, k * 2, none⟩ = some u) ∧ w.frozen? ⟨g, k * 2, none⟩ = false ∧ (∃ u, w.cell? ⟨g, k * 2 + 1, none⟩ = some u) ∧ w.frozen? ⟨g, k * 2 + 1, none⟩ = false := by
  have h0 := h.cells (i := 0) hk (by decide)
  have h1 := h.cells (i := 1) hk (by decide)
  exact ⟨⟨_, h0.1⟩, h0.2, ⟨_, h1.1⟩, h1.2⟩
set_option maxRecDepth 100000 in
/-- A joint laid apart, and read again behind what turns nothing that was there. -/
theorem jbox_at {wr w2 : World} {t : ByteArray} {p q : Int} (hb : Below (wr.alloc (.cells #[.string t, .int .i64 p, .int .i64 q] 129)).heap.size (wr.alloc (.cells #[.string t, .int .i64 p, .int .i64 q] 129)) w2) : w2.heap[wr.heap.size]? = some (.cells #[.string t, .int .i64 p, .int .i64 q] 129 (0, 0)) := by
  have hh := heap_alloc_new wr (.cells #[.string t, .int .i64 p, .int .i64 q] 129)
  exact (hb.block _ (Array.getElem?_eq_some_iff.1 hh).1).trans hh
set_option maxRecDepth 100000 in
set_option maxHeartbeats 2000000 in
theorem smerges_any (K : Nat) (v : Value) (b : Option Nat) (J : List Joint) (w : World) (h : Stab w K v b J) (hJ : J.length ≤ 900000) :
    Calls Tryz.prog 42 #[.pointer (some ⟨K, 0, none⟩)] w fun e w' => ∃ r, e = .returned r ∧ ownE mergeE w' w.heap.size r (mergesOf J) ∧ Below w.heap.size w w' := by
  have H := Lib.hid h
  obtain ⟨c0, _⟩ := h.cell
  obtain ⟨a, cap, rfl, _⟩ := h.row.form
  have hK := h.lt K (.inl rfl)
  clear h
  obtain ⟨i0, hi, hz0, hz1, hz2⟩ := info_parts mergeE.info
  have hz2' : i0.bytes = 32 := hz2
  go_enter Tryz.func42, Tryz.ntmps42
  go_wp2_with (at_make; refine wpList_make_full _ rfl _ _ 27 rfl w.heap.size 42 i0 mergeE.zero 2 Tryz.underlying27 hi hz0 hz1 .i64 .i64 _ _ J.length rfl rfl rfl rfl (by rw [hz2']; omega) (by unfold maxLen; omega) (Nat.le_refl _) ?_; intro w1 hown1 hgr1; have c1 : w1.cell? ⟨K, 0, none⟩ = some (.slice a J.length cap) := (World.cell?_of_block (hgr1.block K hK (by simp))).trans c0)
  have HR1 : Hid (rowE mergeE w1 w.heap.size (List.replicate J.length noMerge)) := Lib.hid (rowE_made mergeE noMerge rfl hown1)
  have HB1 : Hid (Below w.heap.size w w1) := Lib.hid ((Below.refl w.heap.size w).grown hgr1 (Nat.le_refl _) fun g hg => by cases hg)
  clear hown1 hgr1 hi hz0 hz1 hz2 hz2' c1 c0
  obtain ⟨g, hg⟩ : ∃ g, w.heap.size = g := ⟨_, rfl⟩
  have HG : Hid (w.heap.size = g) := Lib.hid hg
  rw [hg] at HR1 ⊢
  have hKg : K < g := by omega
  clear hg hK
  go_loopw [19] (fun i wr => MergesRel J w g i wr) (fun i _ => J.length + 1 - (intOf i).toNat)
  case atStart => exact ⟨0, rfl, by omega, by rw [filledE_zero, merges_len]; exact HR1.out, HB1.out⟩
  case round =>
    obtain ⟨k, rfl, hk, hr, hb⟩ := hrel
    have HB := Lib.hid hb; have HR := Lib.hid hr
    clear hb hr
    by_cases hgo : k < J.length
    · have hkI : (k : Int) < (J.length : Int) := by omega
      obtain ⟨ad, rfl⟩ := H.out.some hgo
      obtain ⟨x0, x1, x2⟩ := H.out.at HB.out hgo
      obtain ⟨g1, g2, _⟩ := H.out.good.each k hgo
      have hgw : g < wr.heap.size := HR.out.lt
      have HRL : Hid ((filledE noMerge (mergesOf J) k).length = J.length) := Lib.hid (by rw [filledE_len (by rw [merges_len]; omega), merges_len])
      obtain ⟨⟨t, p, q⟩, hp⟩ : ∃ p, J[k] = p := ⟨_, rfl⟩
      rw [hp] at x0 x1 x2 g1 g2
      have HP := Lib.hid hp
      clear hp
      simp only at x0 x1 x2 g1 g2
      have HBa : Hid (Below w.heap.size w (wr.alloc (.cells #[.string t, .int .i64 p, .int .i64 q] 129))) := Lib.hid (HB.out.alloc HB.out.size _)
      have cA := text_any K _ b J p _ (H.out.below HBa.out) (by omega) (by omega) (by omega)
      obtain ⟨x, hx⟩ : ∃ x, txtOf J p = x := ⟨_, rfl⟩
      obtain ⟨y, hy⟩ : ∃ y, txtOf J q = y := ⟨_, rfl⟩
      have HX := Lib.hid hx; have HY := Lib.hid hy
      have cC := fun w1 (hb : Below w.heap.size w w1) => text_any K _ b J q w1 (H.out.below hb) (by omega) (by omega) (by omega)
      rw [hx] at cA
      rw [hy] at cC
      clear hx hy
      generalize thereOf J p = tp at *
      generalize thereOf J q = tq at *
      go_wp2_with fail
      refine cA.mono ?_
      rintro e w2 ⟨rfl, hb2⟩
      have HB2 : Hid (Below w.heap.size w w2) := Lib.hid (HBa.out.trans (hb2.mono HBa.out.size))
      have hbox := jbox_at hb2
      have HR2 : Hid (rowE mergeE w2 g (filledE noMerge (mergesOf J) k)) := Lib.hid (HR.out.kept ((hb2.block g (by rw [World.size_alloc]; omega)).trans (Below.heap_alloc _ _ _ hgw)))
      clear hb2 cA x0 x1 x2
      obtain ⟨B, hB⟩ : ∃ B, wr.heap.size = B := ⟨_, rfl⟩
      rw [hB] at hbox hgw ⊢
      clear hB
      have HBox := Lib.hid hbox
      obtain ⟨y0, y1, y2⟩ := box_cells hbox
      obtain ⟨⟨u0, z0⟩, z1, ⟨u1, z2⟩, z3⟩ := row_cell HR2.out (k := k) (by rw [HRL.out]; exact hgo)
      have HR3 : Hid (rowE mergeE (w2.setCell ⟨g, k * 2, none⟩ (.string x)) g ((filledE noMerge (mergesOf J) k).set k (x, ⟨#[]⟩))) := Lib.hid (left_row hgo HR2.out)
      have HB3 : Hid (Below w.heap.size w (w2.setCell ⟨g, k * 2, none⟩ (.string x))) := Lib.hid (HB2.out.setCell (show w.heap.size ≤ g by rw [HG.out]; exact Nat.le_refl _) _)
      have cC := cC _ HB3.out
      clear hbox
      go_wp2_with fail
      refine cC.mono ?_
      rintro e w3 ⟨rfl, hb3⟩
      have HB4 : Hid (Below w.heap.size w w3) := Lib.hid (HB3.out.trans (hb3.mono HB3.out.size))
      have HR4 : Hid (rowE mergeE w3 g ((filledE noMerge (mergesOf J) k).set k (x, ⟨#[]⟩))) := Lib.hid (HR3.out.kept (hb3.block g HR3.out.lt))
      clear hb3 cC z0 z1 z2 z3 y0 y1 y2
      obtain ⟨_, _, ⟨u1, z2⟩, z3⟩ := row_cell HR4.out (k := k) (by rw [List.length_set, HRL.out]; exact hgo)
      have HST : Hid (MergesRel J w g (.int .i64 ((k : Int) + 1)) (w3.setCell ⟨g, k * 2 + 1, none⟩ (.string y))) := Lib.hid (by
        refine ⟨k + 1, by simp, hgo, ?_, HB4.out.setCell (show w.heap.size ≤ g by rw [HG.out]; exact Nat.le_refl _) _⟩
        have e1 : txtOf J J[k].2.1 = x := by rw [HP.out]; exact HX.out
        have e2 : txtOf J J[k].2.2 = y := by rw [HP.out]; exact HY.out
        have hr := HR4.out
        rw [← e1] at hr
        rw [← e2]
        exact right_row hgo hr)
      go_wp2
      go_roundw
      case rel => exact HST.out
      case measure => simp [intOf]; omega
    · have hkI : ¬ (k : Int) < (J.length : Int) := by omega
      obtain rfl : k = J.length := by omega
      have hr := HR.out
      rw [← merges_len J, filledE_all] at hr
      have HE := Lib.hid (hr.own (b := w.heap.size) (by rw [HG.out]; exact Nat.le_refl _) (by rw [merges_len]; unfold maxLen; omega))
      rw [merges_len] at HE
      clear hr
      go_wp2
      go_ret
      exact ⟨_, rfl, HE.out, HB.out⟩
end Go.Proofs.YtnmacalbbmeedaaGreat
