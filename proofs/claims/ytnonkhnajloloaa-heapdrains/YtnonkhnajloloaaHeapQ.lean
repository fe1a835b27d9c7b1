/- The document's heap: pushed, and dropped. -/
import Derived.Test.YtnonkhnajloloaaHeapR
import Derived.Test.YtnonkhnajloloaaHeapD
namespace Go.Proofs.Ytnonkhnajloloaa
open Go.RowKit Go.Shelf
open Go.Sort (grow grow_empty grow_grow alloc_eq_grow heap_grow_old)
variable {w w' : World} {B K : Nat} {v : Value} {L : List It} {pu pk : Int}

/-- Behind a change of the document's heap. -/
def RhRet (w : World) (B K : Nat) (v : Value) (L' : List It) (pu pk : Int) (u : Value) (e : Ending) (w' : World) : Prop :=
  e = .returned u ∧ ∃ v', Rh w' B K v' L' pu pk ∧ Kept (mine K v) w w' ∧ Moved v v' w.heap.size
set_option maxRecDepth 100000 in
theorem kept_three' (w : World) (K : Nat) (a b c : Value) : Kept (fun k => k = K) w (((w.setCell ⟨K, 0, none⟩ a).setCell ⟨K, 1, none⟩ b).setCell ⟨K, 2, none⟩ c).drew := by
  have hS : ∀ i, (fun k => k = K) (⟨K, i, none⟩ : Addr).block := fun _ => rfl
  exact ((((Kept.refl (fun k => k = K) w).setCell ⟨K, 0, none⟩ a fun _ => hS 0).setCell ⟨K, 1, none⟩ b fun _ => hS 1).setCell ⟨K, 2, none⟩ c fun _ => hS 2).drew
set_option maxRecDepth 100000 in
theorem rpush_end {w1 w3 w6 : World} {r : Value} {x : It} {e : Ending} (hg1 : Grown w w1) (hg : w1.grownBy w3 v.ownBlock) (hr : r.ownBlock = v.ownBlock ∨ r.ownBlock = some w1.heap.size)
    (h6 : Kept (fun k => k = K) w3 w6) (he : e = .returned (.tuple #[])) (ho : Rh w6 B K r (L ++ [x]) (pu + 1) (max pk ((L.length + 1 : Nat) : Int))) : RhRet w B K v (L ++ [x]) (pu + 1) (max pk ((L.length + 1 : Nat) : Int)) (.tuple #[]) e w6 := by
  have hz := hg1.below.size
  refine ⟨he, r, ho, ?_, ?_⟩
  · exact (((Kept.refl (mine K v) w).grow hg1).grown hg fun k hk _ => .inr hk.symm).trans h6 fun _ _ e => .inl e
  · rcases hr with hr | hr
    · exact .inl hr
    · refine .inr fun g hg => ?_
      rw [hr] at hg
      cases hg
      exact hz
set_option maxRecDepth 100000 in
set_option maxHeartbeats 800000 in
theorem rpush_any (x : It) (h : Rh w B K v L pu pk) (hA : L.length < 100000) (hu : 0 ≤ pu ∧ pu ≤ 1000000) :
    Calls Try.prog 12 #[.pointer (some ⟨K, 0, none⟩), itV x] w (RhRet w B K v (L ++ [x]) (pu + 1) (max pk ((L.length + 1 : Nat) : Int)) (.tuple #[])) := by
  obtain ⟨x1, x2⟩ := x
  obtain ⟨N, hN⟩ : ∃ N, w.heap.size = N := ⟨_, rfl⟩
  obtain ⟨wa, hwa⟩ : ∃ wa, w.alloc (.cells #[.int .i64 x1, .int .i64 x2] 32) = wa := ⟨_, rfl⟩
  have hga : Grown w wa := by rw [← hwa]; exact alloc_grown w _
  have hna : wa.heap.size = N + 1 := by rw [← hwa, World.size_alloc, hN]
  have hba : wa.heap[N]? = some (.cells #[.int .i64 x1, .int .i64 x2] 32 (0, 0)) := by rw [← hwa, ← hN]; exact heap_alloc_new w _
  obtain ⟨wc, hwc⟩ : ∃ wc, wa.alloc (.cells #[.int .i64 x1, .int .i64 x2] 32) = wc := ⟨_, rfl⟩
  have hbc : wc.heap[N]? = some (.cells #[.int .i64 x1, .int .i64 x2] 32 (0, 0)) := by rw [← hwc]; exact (Below.heap_alloc _ _ _ (by omega)).trans hba
  have hgc : Grown w wc := by rw [← hwc]; exact hga.alloc _
  have HGC := Lib.hid hgc
  have hHa := h.below hga.below
  have hHc := h.below hgc.below
  have a0 : wa.cell? ⟨N, 0, none⟩ = some (.int .i64 x1) := by rw [cell_of_row wa N 0 _ 32 (0, 0) hba]; rfl
  have a1 : wa.cell? ⟨N, 1, none⟩ = some (.int .i64 x2) := by rw [cell_of_row wa N 1 _ 32 (0, 0) hba]; rfl
  have e0 : wc.cell? ⟨N, 0, none⟩ = some (.int .i64 x1) := by rw [cell_of_row wc N 0 _ 32 (0, 0) hbc]; rfl
  have e1 : wc.cell? ⟨N, 1, none⟩ = some (.int .i64 x2) := by rw [cell_of_row wc N 1 _ 32 (0, 0) hbc]; rfl
  obtain ⟨c0, c1, c2⟩ := hHa.cells
  obtain ⟨d0, d1, d2⟩ := hHc.cells
  have HHC := Lib.hid hHc
  have HL := Lib.hid hA
  have HB : Hid (B ≤ wc.heap.size) := Lib.hid (by have := hHc.ltK; have := hHc.base; omega)
  have hone : eltsAt itE wc.drew (.slice (some ⟨wa.heap.size, 0, none⟩) 1 1) [(x1, x2)] := by rw [← hwc]; exact (one_elt itE wa (x1, x2)).drew 1
  rw [hna] at hone
  have HONE := Lib.hid hone
  obtain ⟨n, hn⟩ : ∃ n, L.length + 1 = n := ⟨_, rfl⟩
  have HN := Lib.hid hn
  have hw1 : IntKind.i64.wrap (pu + 1) = pu + 1 := IntWalk.i64_in _ (by omega)
  clear h hHa hHc hone hga hgc hba hbc hn hA hu
  unfold itV
  simp only
  go_enter Try.func12, Try.ntmps12
  go_wp2
  go_region_law
    (first | (refine step_append_elts itE rfl (.tmp 8) (.tmp 10) rfl B v (.slice (some ⟨N + 1, 0, none⟩) 1 1) L [(x1, x2)] rfl rfl HHC.out.row HONE.out (someNone _ _ _) (by have := HL.out; simp; omega) HB.out ?_; intro r w4 ho4 hg4 hr4; obtain ⟨ra, rc, rfl, _⟩ := ho4.form; rw [List.length_append, List.length_singleton] at ho4 hr4; obtain ⟨z0, zf⟩ : w4.cell? ⟨K, 0, none⟩ = some v ∧ w4.frozen? ⟨K, 0, none⟩ = false := ⟨by rw [cell_of_row w4 K 0 _ 28 (0, 0) ((hg4.block K HHC.out.ltK (fun e => HHC.out.apart e.symm)).trans HHC.out.box)]; rfl, Lib.frozen_of_heap ((hg4.block K HHC.out.ltK (fun e => HHC.out.apart e.symm)).trans HHC.out.box) _⟩; have HO4 := Lib.hid ho4; have HG4 := Lib.hid hg4; have HR4 := Lib.hid hr4; clear ho4 hg4 hr4))
  all_goals (
    have hP := Rh.apps HHC.out.drew HO4.out HG4.out (fun k hk => by
      rcases HR4.out with hr | hr
      · intro e; exact HHC.out.apart (by rw [← hr, hk, e])
      · have := HHC.out.ltK
        rw [hr] at hk
        cases hk
        intro e
        rw [← e] at this
        exact absurd this (Nat.lt_irrefl _)) (by have := HL.out; simp; omega)
    rw [HN.out] at hP ⊢
    obtain ⟨w5, hw5⟩ : ∃ w5, w4.setCell ⟨K, 0, none⟩ (.slice ra n rc) = w5 := ⟨_, rfl⟩
    rw [hw5] at hP ⊢
    obtain ⟨w6, hw6⟩ : ∃ w6, w5.setCell ⟨K, 1, none⟩ (.int .i64 (pu + 1)) = w6 := ⟨_, rfl⟩
    have hP6 := hP.setPu (pu + 1)
    rw [hw6] at hP6
    obtain ⟨w7, hw7⟩ : ∃ w7, w6.setCell ⟨K, 2, none⟩ (.int .i64 (max pk (n : Int))) = w7 := ⟨_, rfl⟩
    have hP7 := hP6.setPk (max pk (n : Int))
    rw [hw7] at hP7
    have HK : Hid (Kept (fun k => k = K) w4 w7.drew) := Lib.hid (by
      rw [← hw7, ← hw6, ← hw5]
      exact kept_three' w4 K _ _ _)
    obtain ⟨_, f1, _⟩ := hP.cells
    have f4 := hP.frozen 1
    obtain ⟨k0, _, k2⟩ := hP6.cells
    have k4 := hP6.frozen 2
    have HP7 := Lib.hid hP7.drew
    clear hw5 hP hP6 hP7 a0 a1 e0 e1 c0 c1 c2 d0 d1 d2 z0 zf hwa hwc hna hN
    by_cases hm : (n : Int) > pk
    · rw [show max pk (n : Int) = (n : Int) by omega] at hw7
      go_wp2
      go_region
      go_wp2
      go_end0
      exact rpush_end (x := (x1, x2)) (pu := pu) (pk := pk) HGC.out.drew HG4.out HR4.out HK.out rfl (by rw [HN.out]; exact HP7.out)
    · rw [show max pk (n : Int) = pk by omega] at hw7
      go_wp2
      go_region
      go_wp2
      go_end0
      exact rpush_end (x := (x1, x2)) (pu := pu) (pk := pk) HGC.out.drew HG4.out HR4.out HK.out rfl (by rw [HN.out]; exact HP7.out))
/-! Drop. -/
set_option maxRecDepth 100000 in
theorem item_eql (x y : It) (w : World) : (binOp .eql 32 (.agg #[.int .i64 x.1, .int .i64 x.2]) (.agg #[.int .i64 y.1, .int .i64 y.2])).run Try.prog w = .ok (.bool (decide (x = y))) w := by
  obtain ⟨a, b⟩ := x
  obtain ⟨c, d⟩ := y
  have u32 := Try.underlying32
  have u3 := Try.underlying3
  by_cases e : a = c
  · by_cases e2 : b = d
    · subst e; subst e2; simp [go_sem, u32, u3]
    · subst e; simp [go_sem, u32, u3, e2]
  · simp [go_sem, u32, u3, e]
set_option maxRecDepth 100000 in
theorem it_empty (w : World) : ownE itE (w.alloc (.cells #[] 32)) w.heap.size (.slice (some ⟨w.heap.size, 0, none⟩) 0 0) [] :=
  ⟨rfl, .inr ⟨w.heap.size, 0, #[], rfl, Nat.le_refl _, heap_alloc_new w _, Nat.le_refl _, by unfold maxLen; omega, rfl, rfl⟩⟩
/-- Behind a drop. -/
def DropRet (w : World) (B K : Nat) (v : Value) (L : List It) (pu pk : Int) (x : It) (e : Ending) (w' : World) : Prop :=
  e = .returned (.bool (decide (x ∈ L))) ∧ ∃ v', Rh w' B K v' (L.erase x) pu pk ∧ Kept (mine K v) w w' ∧ Moved v v' w.heap.size
def DropRel (w : World) (N : Nat) (L : List It) (x : It) (i : Value) (wr : World) : Prop := ∃ k : Nat, i = .int .i64 (k : Int) ∧ k ≤ L.length ∧ x ∉ L.take k ∧ Grown w wr ∧ w.heap.size = N ∧ wr.heap[N]? = some (.cells #[.int .i64 x.1, .int .i64 x.2] 32 (0, 0))
set_option maxRecDepth 100000 in
theorem Rh.lay {r : Value} {C : List It} (h : Rh w B K v L pu pk) (ho : ownE itE w B r C) (hr : ∀ k, r.ownBlock = some k → k ≠ K) (hf : C.length ≤ 100000) :
    Rh (w.setCell ⟨K, 0, none⟩ r) B K r C pu pk :=
  ⟨(heap_setCell_at h.box r).trans rfl, ho.kept fun g hgr => Below.heap_setCell _ ⟨K, 0, none⟩ _ g (hr g hgr), hf, h.base⟩
set_option maxRecDepth 100000 in
theorem own_fresh {w0 w1 w2 w3 : World} {r1 r2 : Value} {u : Value} (h01 : Grown w0 w1) (hb : u.ownBlock = some w1.heap.size) (hg : (w1.alloc (.cells #[] 32)).drew.grownBy w2 u.ownBlock) (h1 : r1.ownBlock = u.ownBlock ∨ r1.ownBlock = some (w1.alloc (.cells #[] 32)).drew.heap.size)
    (hg2 : w2.grownBy w3 r1.ownBlock) (h2 : r2.ownBlock = r1.ownBlock ∨ r2.ownBlock = some w2.heap.size) : Below w0.heap.size w0 w2 ∧ Below w0.heap.size w0 w3 ∧ ∀ k, r2.ownBlock = some k → w0.heap.size ≤ k := by
  have hz := h01.below.size
  have hB1 : Below w0.heap.size w0 (w1.alloc (.cells #[] 32)).drew := (h01.below.alloc hz _).drew
  have hr1 : ∀ k, r1.ownBlock = some k → w0.heap.size ≤ k := by
    intro k hk
    rcases h1 with h1 | h1
    · rw [h1, hb] at hk; cases hk; exact hz
    · rw [h1] at hk; cases hk; exact hB1.size
  have hB2 : Below w0.heap.size w0 w2 := hB1.grown hg hB1.size fun k e => by rw [hb] at e; cases e; exact hz
  refine ⟨hB2, hB2.grown hg2 hB2.size hr1, fun k hk => ?_⟩
  rcases h2 with h2 | h2
  · exact hr1 k (by rw [← h2, hk])
  · rw [h2] at hk; cases hk; exact hB2.size
set_option maxRecDepth 100000 in
theorem erase_at {L : List It} {x : It} {k : Nat} (hk : k < L.length) (hx : x ∉ L.take k) (e : L[k] = x) : L.erase x = L.take k ++ L.drop (k + 1) := by
  have h : L = L.take k ++ x :: L.drop (k + 1) := by
    rw [← e, List.getElem_cons_drop, List.take_append_drop]
  conv => lhs; rw [h]
  rw [List.erase_append_right _ hx, List.erase_cons_head]
set_option maxRecDepth 100000 in
theorem not_take {L : List It} {x : It} {k : Nat} (hk : k < L.length) (hx : x ∉ L.take k) (e : L[k] ≠ x) : x ∉ L.take (k + 1) := by
  rw [List.take_succ_eq_append_getElem hk, List.mem_append, List.mem_singleton]
  rintro (h | h)
  · exact hx h
  · exact e h.symm
set_option maxRecDepth 100000 in
set_option maxHeartbeats 1600000 in
theorem drop_any (x : It) (h : Rh w B K v L pu pk) (hB : B ≤ w.heap.size) :
    Calls Try.prog 14 #[.pointer (some ⟨K, 0, none⟩), itV x] w (DropRet w B K v L pu pk x) := by
  obtain ⟨N, hN⟩ : ∃ N, w.heap.size = N := ⟨_, rfl⟩
  have HH := Lib.hid h
  obtain ⟨a, cap, rfl, hc⟩ := h.row.form
  have HNil := Lib.hid h.row.nilNone
  have HBS := Lib.hid hB
  have HS : Hid (DropRel w N L x (.int .i64 (0 : Int)) (w.alloc (.cells #[.int .i64 x.1, .int .i64 x.2] 32))) := Lib.hid ⟨0, rfl, Nat.zero_le _, by simp, alloc_grown w _, hN, by rw [← hN]; exact heap_alloc_new w _⟩
  obtain ⟨n, hn⟩ : ∃ n, L.length = n := ⟨_, rfl⟩
  have HN := Lib.hid hn
  have hfew : n ≤ 100000 := by rw [← hn]; exact h.few
  clear h hB
  rw [hn] at hc HH HNil ⊢
  unfold itV
  go_enter Try.func14, Try.ntmps14
  clear hn
  go_wp2
  go_loopw [5] (fun i wr => DropRel w N L x i wr) (fun i _ => n - (intOf i).toNat)
  case atStart => exact HS.out
  case round =>
    clear HS
    obtain ⟨k, rfl, hk, hx, hg, _, hbox⟩ := hrel
    rw [HN.out] at hk
    have HX := Lib.hid hx; have HG := Lib.hid hg; have HBX := Lib.hid hbox
    clear hx hg hbox
    have HHR := Lib.hid (HH.out.below HG.out.below)
    obtain ⟨c0, _, _⟩ := HHR.out.cells
    by_cases hgo : k < n
    · have hkL : k < L.length := by rw [HN.out]; exact hgo
      obtain ⟨gr, cap', hv, _, _, _, hgK⟩ := HHR.out.place (by omega)
      obtain ⟨rfl, hv2, rfl⟩ := Value.slice.inj hv
      clear hv hv2
      obtain ⟨b0, b1⟩ := HHR.out.at hkL
      have x0 : wr.cell? ⟨N, 0, none⟩ = some (.int .i64 x.1) := by rw [cell_of_row wr N 0 _ 32 (0, 0) HBX.out]; rfl
      have x1 : wr.cell? ⟨N, 1, none⟩ = some (.int .i64 x.2) := by rw [cell_of_row wr N 1 _ 32 (0, 0) HBX.out]; rfl
      have heq := item_eql L[k] x
      have i0 : (0 : Int) ≤ (k : Int) := by omega
      have i1 : (k : Int) < (n : Int) := by omega
      by_cases hlk : L[k] = x
      · rw [decide_eq_true hlk] at heq
        have HE := Lib.hid (erase_at hkL HX.out hlk)
        have HM : Hid (x ∈ L) := Lib.hid (by rw [← hlk]; exact List.getElem_mem _)
        clear hlk
        generalize L[k].1 = y1 at b0 heq
        generalize L[k].2 = y2 at b1 heq
        go_wp2_with fail
        go_quiet (fail)
        have HGD : Hid (Grown w (wr.drewN nq)) := Lib.hid (HG.out.drewN nq)
        have HHD := Lib.hid (HH.out.below HGD.out.below)
        clear b0 b1 x0 x1 heq c0
        obtain ⟨wd, hwd⟩ : ∃ wd, wr.drewN nq = wd := ⟨_, rfl⟩
        rw [hwd] at HGD HHD ⊢
        clear hwd
        obtain ⟨D, hD⟩ : ∃ D, wd.heap.size = D := ⟨_, rfl⟩
        obtain ⟨c0, _, _⟩ := HHD.out.cells
        obtain ⟨v1, hs1, hn1, he1⟩ := its_head (some ⟨gr, 0, none⟩) n cap k _ rfl (by omega) HNil.out
        obtain ⟨v2, hs2, hn2, he2⟩ := its_tail (some ⟨gr, 0, none⟩) n cap (k + 1) ((k : Int) + 1) (by omega) (by omega) hc HNil.out
        have hw1 : IntKind.i64.wrap ((k : Int) + 1) = (k : Int) + 1 := IntWalk.i64_in _ (by omega)
        obtain ⟨wE, hwE⟩ : ∃ wE, wd.alloc (.cells #[] 32) = wE := ⟨_, rfl⟩
        have HBE : Hid (Below w.heap.size w wE) := Lib.hid (by rw [← hwE]; exact HGD.out.below.alloc HGD.out.below.size _)
        have hO := (it_empty wd).mono (b' := B) (by have := HGD.out.below.size; have := HBS.out; omega)
        rw [hwE, hD] at hO
        have HO := Lib.hid hO
        have HHE := Lib.hid (HH.out.below HBE.out)
        have E1 := Lib.hid (he1 wE L HHE.out.row.reads (by rw [HN.out]; omega))
        have E2 := Lib.hid fun W (h : Below w.heap.size w W) => he2 W L (HH.out.below h).row.reads
        have HN1 := Lib.hid hn1; have HN2 := Lib.hid hn2
        obtain ⟨e0, _, _⟩ := HHE.out.cells
        have HDS := Lib.hid hD
        obtain ⟨m1, hm1⟩ : ∃ m1, (L.take k ++ L.drop (k + 1)).length = m1 := ⟨_, rfl⟩
        have HLN := Lib.hid hm1
        have HFE : Hid ((L.erase x).length ≤ 100000) := Lib.hid (by rw [HE.out]; simp; rw [HN.out]; omega)
        have HWE := Lib.hid hwE
        clear he1 he2 hn1 hn2 hO hm1
        go_wp2_with fail
        go_region_law
          (first
          | (refine step_append_elts itE rfl (.tmp 25) (.tmp 31) rfl B (.slice (some ⟨D, 0, none⟩) 0 0) v1 [] (L.take k) rfl rfl HO.out.drew (E1.out.drew 1) HN1.out (by simp; rw [HN.out]; omega) (by have := HBE.out.size; have := HBS.out; show B ≤ wE.heap.size; omega) ?_; intro r6 w6 ho6 hg6 hr6; have hf6 := own_fresh (w0 := w) (w1 := wd) (w2 := w6) (w3 := w6) (r1 := r6) (r2 := r6) (u := .slice (some ⟨D, 0, none⟩) 0 0) HGD.out (by rw [HDS.out]; rfl) (by rw [HWE.out]; exact hg6) (by rw [HWE.out]; exact hr6) ⟨rfl, rfl, rfl, Nat.le_refl _, fun _ _ _ => rfl⟩ (.inl rfl); rw [List.nil_append] at ho6; have HO6 := Lib.hid ho6; have HG6 := Lib.hid hg6; have HR6 := Lib.hid hr6; have HB6 := Lib.hid hf6.1; have k6 := (HH.out.below hf6.1).cells.1; clear ho6 hg6 hr6 hf6)
          | (refine step_append_elts itE rfl (.tmp 32) (.tmp 39) rfl B r6 v2 (L.take k) (L.drop (k + 1)) rfl rfl HO6.out (E2.out w6 HB6.out) HN2.out (by simp; rw [HN.out]; omega) (by have := HB6.out.size; have := HBS.out; omega) ?_; intro r7 w7 ho7 hg7 hr7; have hf7 := own_fresh (w0 := w) (w1 := wd) (w2 := w6) (w3 := w7) (r1 := r6) (r2 := r7) (u := .slice (some ⟨D, 0, none⟩) 0 0) HGD.out (by rw [HDS.out]; rfl) (by rw [HWE.out]; exact HG6.out) (by rw [HWE.out]; exact HR6.out) hg7 hr7; obtain ⟨ra, rc, e7, _⟩ := ho7.form; rw [HLN.out] at e7; subst e7; rw [← HE.out] at ho7; have HO7 := Lib.hid ho7; have HF7 := Lib.hid hf7; have HH7 := Lib.hid (HH.out.below hf7.2.1); have k7 := HH7.out.cells.1; have f7 := HH7.out.frozen 0; clear ho7 hg7 hr7 hf7))
        all_goals (
          have hF := HF7.out
          have hP := HH7.out.lay HO7.out (fun i hi e => by have := hF.2.2 i hi; have := HH.out.ltK; omega) HFE.out
          have hBK : Kept (mine K (.slice (some ⟨gr, 0, none⟩) n cap)) w (w7.setCell ⟨K, 0, none⟩ (.slice ra m1 rc)) := (Kept.of_below hF.2.1 (Nat.le_refl _)).setCell _ _ fun _ => .inl rfl
          have HP := Lib.hid hP; have HBK := Lib.hid hBK
          have HMV : Hid (∀ i, (Value.slice ra m1 rc).ownBlock = some i → w.heap.size ≤ i) := Lib.hid hF.2.2
          have HMD : Hid (decide (x ∈ L) = true) := Lib.hid (decide_eq_true HM.out)
          clear hF hP hBK
          go_wp2
          refine bodyPost_ret (results_tmp rfl _ _ _) rfl ?_
          refine ⟨by rw [HMD.out]; rfl, _, ?_, ?_, .inr HMV.out⟩
          · first | exact HP.out | exact HP.out.drew
          · first | exact HBK.out | exact HBK.out.drew)
      · rw [decide_eq_false hlk] at heq
        have HNT := Lib.hid (not_take hkL HX.out hlk)
        clear hlk
        generalize L[k].1 = y1 at b0 heq
        generalize L[k].2 = y2 at b1 heq
        go_wp2_with fail
        go_quiet (fail)
        go_wp2
        go_roundw
        case rel => exact ⟨k + 1, by simp, by rw [HN.out]; omega, HNT.out, HG.out.drewN _, by assumption, HBX.out⟩
        case measure => simp [intOf]; omega
    · obtain rfl : k = n := by omega
      have hi : ¬ (k : Int) < (k : Int) := by omega
      have HNM : Hid (x ∉ L) := Lib.hid (by have := HX.out; rwa [List.take_of_length_le (by rw [HN.out]; exact Nat.le_refl _)] at this)
      have HND : Hid (decide (x ∈ L) = false) := Lib.hid (decide_eq_false HNM.out)
      go_wp2
      go_ret
      refine ⟨by rw [HND.out]; rfl, _, ?_, (Kept.refl _ w).grow HG.out, Moved.refl _ _⟩
      rw [List.erase_of_not_mem HNM.out]
      exact HHR.out
end Go.Proofs.Ytnonkhnajloloaa
