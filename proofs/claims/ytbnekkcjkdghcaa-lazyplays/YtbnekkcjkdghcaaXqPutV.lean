/- Put of the document's queue. (The region of two appends by wip/tools/gen_xput2.py.) -/
import Derived.Test.YtbnekkcjkdghcaaGA
import Derived.Test.YtbnekkcjkdghcaaGB
import Derived.Deep.CutRange
namespace Go.Proofs.Ytbnekkcjkdghcaa
open Go.RowKit Go.Maps Go.Shelf
open Go.Sort (grow grow_empty grow_grow alloc_eq_grow heap_grow_old)
variable {w w' : World} {X T : Nat} {tv tp pv nv kv ku : Value} {J : List Joint} {P : List (Int × Int)} {C : List Int} {M : Cn} {pu po pk re : Int}

set_option maxRecDepth 100000 in
theorem new_own {w W : World} {r v : Value} (h : r.ownBlock = v.ownBlock ∨ r.ownBlock = some W.heap.size) (hs : w.heap.size ≤ W.heap.size) : ∀ k, some k = r.ownBlock → k < w.heap.size → some k = v.ownBlock := by
  intro k h1 h2
  rcases h with h | h
  · rw [h1, h]
  · rw [h] at h1
    cases h1
    omega
/-- What the region of two appends reads. -/
abbrev AtX (X N : Nat) (pv nv : Value) (p1 p2 : Int) (W : World) : Prop := W.cell? ⟨X, 1, none⟩ = some pv ∧ W.cell? ⟨X, 2, none⟩ = some nv ∧ W.cell? ⟨N, 0, none⟩ = some (.int .i64 p1) ∧ W.cell? ⟨N, 1, none⟩ = some (.int .i64 p2) ∧ W.frozen? ⟨X, 1, none⟩ = false ∧ W.frozen? ⟨X, 2, none⟩ = false
/-- Put, as lists. -/
def putX (P : List (Int × Int)) (C : List Int) (M : Cn) (p : Int × Int) (n : Int) : List (Int × Int) × List Int × Cn :=
  if n < 1 then (P, C, delC M p)
  else bif manyQ (P.length + 1) (insC p n M).length then (keysC (insC p n M), valsC (insC p n M), insC p n M)
  else (P ++ [p], C ++ [n], insC p n M)
def XPutRet (w : World) (X T : Nat) (tv tp pv nv kv ku : Value) (J : List Joint) (P : List (Int × Int)) (C : List Int) (M : Cn) (pu po pk re : Int) (p : Int × Int) (n : Int) (w' : World) : Prop :=
  if n < 1 then XRet w X T tv tp pv nv kv ku J P C (delC M p) pu po pk re w'
  else bif manyQ (P.length + 1) (insC p n M).length then XRet w X T tv tp pv nv kv ku J (keysC (insC p n M)) (valsC (insC p n M)) (insC p n M) (pu + 1) po (max pk ((P.length + 1 : Nat) : Int)) (re + 1) w'
  else XRet w X T tv tp pv nv kv ku J (P ++ [p]) (C ++ [n]) (insC p n M) (pu + 1) po (max pk ((P.length + 1 : Nat) : Int)) re w'
/-- What stands while two rows of the queue grow: rows v, u where pv, nv were. -/
structure XSt (SR : Nat → Prop) (w : World) (pv nv : Value) (W : World) (v u : Value) (A : List (Int × Int)) (B : List Int) : Prop where
  kept : Kept SR w W
  rows : ownE pairE W 0 v A
  nums : ownE intE W 0 u B
  fp : ∀ k, some k = v.ownBlock → k < w.heap.size → some k = pv.ownBlock
  fn : ∀ k, some k = u.ownBlock → k < w.heap.size → some k = nv.ownBlock
set_option maxRecDepth 100000 in
theorem XSt.alloc {SR : Nat → Prop} {w W : World} {pv nv v u : Value} {A : List (Int × Int)} {B : List Int} (h : XSt SR w pv nv W v u A B) (o : Obj) : XSt SR w pv nv (W.alloc o) v u A B :=
  ⟨h.kept.alloc o, h.rows.alloc o, h.nums.alloc o, h.fp, h.fn⟩
set_option maxRecDepth 100000 in
theorem XSt.appP {SR : Nat → Prop} {w W W' : World} {pv nv u r : Value} {A A' : List (Int × Int)} {B : List Int} (h : XSt SR w pv nv W pv u A B) (ho : ownE pairE W' 0 r A') (hg : W.grownBy W' pv.ownBlock)
    (hr : r.ownBlock = pv.ownBlock ∨ r.ownBlock = some W.heap.size) (hS : ∀ k, some k = pv.ownBlock → SR k) : XSt SR w pv nv W' r u A' B :=
  ⟨h.kept.grown hg fun k e _ => hS k e.symm, ho, down_ints h.rows h.nums hg, new_own hr h.kept.size, h.fn⟩
set_option maxRecDepth 100000 in
theorem XSt.appN {SR : Nat → Prop} {w W W' : World} {pv nv v r : Value} {A : List (Int × Int)} {B B' : List Int} (h : XSt SR w pv nv W v nv A B) (ho : ownE intE W' 0 r B') (hg : W.grownBy W' nv.ownBlock)
    (hr : r.ownBlock = nv.ownBlock ∨ r.ownBlock = some W.heap.size) (hS : ∀ k, some k = nv.ownBlock → SR k) : XSt SR w pv nv W' v r A B' :=
  ⟨h.kept.grown hg fun k e _ => hS k e.symm, down_pairs h.rows h.nums hg, ho, h.fp, new_own hr h.kept.size⟩
set_option maxRecDepth 100000 in
/-- Both rows are laid into the queue's box. -/
theorem new_rows {SR : Nat → Prop} {W : World} {rp rc : Value} {A : List (Int × Int)} {B : List Int} (h : XqIn w X T tv tp pv nv kv ku J P C M pu po pk re) (hS : SR = fun k => some k = pv.ownBlock ∨ some k = nv.ownBlock) (x : XSt SR w pv nv W rp rc A B) :
    XRet w X T tv tp pv nv kv ku J A B M pu po pk re ((W.setCell ⟨X, 1, none⟩ rp).setCell ⟨X, 2, none⟩ rc) := by
  subst hS
  exact h.newRows x.kept x.rows x.nums x.fp x.fn
/-- A row of one, laid behind w. -/
structure LitAt {α : Type} (R : Elt α) (w W : World) (n : Nat) (x : α) : Prop where
  row : eltsAt R W (.slice (some ⟨n, 0, none⟩) 1 1) [x]
  lo : w.heap.size ≤ n
  hi : n < W.heap.size
set_option maxRecDepth 100000 in
theorem LitAt.new {α : Type} {R : Elt α} {w W : World} (x : α) (hs : w.heap.size ≤ W.heap.size) : LitAt R w (W.alloc (.cells (R.enc x).toArray R.ty)) W.heap.size x := ⟨one_elt R W x, hs, by simp⟩
set_option maxRecDepth 100000 in
theorem LitAt.alloc {α : Type} {R : Elt α} {w W : World} {n : Nat} {x : α} (h : LitAt R w W n x) (o : Obj) : LitAt R w (W.alloc o) n x :=
  ⟨h.row.below ((Below.refl _ _).alloc (Nat.le_refl _) _) (Nat.le_refl _), h.lo, by have := h.hi; simp; omega⟩
set_option maxRecDepth 100000 in
theorem LitAt.app {α β : Type} {R : Elt α} {R2 : Elt β} {w W W' : World} {n : Nat} {x : α} {v : Value} {A : List β} (h : LitAt R w W n x) (ho : ownE R2 w 0 v A) (hg : W.grownBy W' v.ownBlock) : LitAt R w W' n x :=
  ⟨dlit_kept h.row ho h.lo h.hi hg, h.lo, Nat.lt_of_lt_of_le h.hi hg.size⟩
set_option maxRecDepth 100000 in
set_option maxHeartbeats 16000000 in
theorem xput_any (p : Int × Int) (n : Int) (h : XqIn w X T tv tp pv nv kv ku J P C M pu po pk re) (hp : FitsPr p) (hn2 : FitsN n) (hPC : C.length = P.length) (hPl : P.length ≤ 1000) (hMl : M.length ≤ 990) (hpu : 0 ≤ pu ∧ pu ≤ 100000) (hre : 0 ≤ re ∧ re ≤ 100000) :
    Calls Try.prog 11 #[.pointer (some ⟨X, 0, none⟩), .agg #[.int .i64 p.1, .int .i64 p.2], .int .i64 n] w fun e w' => e = .returned (.tuple #[]) ∧ XPutRet w X T tv tp pv nv kv ku J P C M pu po pk re p n w' := by
  obtain ⟨p1, p2⟩ := p
  obtain ⟨N, hN⟩ : ∃ N, w.heap.size = N := ⟨_, rfl⟩
  obtain ⟨wa, hwa⟩ : ∃ wa, w.alloc (.cells #[.int .i64 p1, .int .i64 p2] 41) = wa := ⟨_, rfl⟩
  have hg : Grown w wa := by rw [← hwa]; exact (Grown.refl w).alloc _
  have hba : wa.heap[N]? = some (.cells #[.int .i64 p1, .int .i64 p2] 41 (0, 0)) := by rw [← hwa, ← hN]; exact heap_alloc_new w _
  have n0 : wa.cell? ⟨N, 0, none⟩ = some (.int .i64 p1) := by rw [cell_of_row wa N _ _ 41 (0, 0) hba]; rfl
  have n1 : wa.cell? ⟨N, 1, none⟩ = some (.int .i64 p2) := by rw [cell_of_row wa N _ _ 41 (0, 0) hba]; rfl
  have cF := xforget_any (p1, p2) (h.grown hg) (by omega)
  have HG := Lib.hid hg
  have HBA := Lib.hid hba
  have HH := Lib.hid h
  have HN := Lib.hid hN
  have HPR := Lib.hid hp
  have hmixed : Try.prog.follows .mixedOrders = true := by kernel_rfl
  clear h hba hg
  go_enter Try.func11, Try.ntmps11
  go_wp2_with fail
  refine cF.mono ?_
  rintro e wr ⟨rfl, hr⟩
  have HR := Lib.hid (hr.after HG.out.below)
  have HR0 := Lib.hid hr
  obtain ⟨pv1, nv1, kv1, ku1, hx1, hk1, ho1⟩ := hr
  have hNm : ¬ mineX X pv1 nv1 kv1 ku1 N := fun e => by
    have h1 := (Array.getElem?_eq_some_iff.1 HBA.out).1
    have h2 := HH.out.lt N (.inl (ho1 N e h1))
    have := HN.out
    omega
  have hbN := (hk1.block N (Array.getElem?_eq_some_iff.1 HBA.out).1 (fun e => by
    have h2 := HH.out.lt N (.inl e)
    have := HN.out
    omega)).trans HBA.out
  have HST := Lib.hid (And.intro hk1 ho1)
  have HNA : Hid (N < wa.heap.size ∧ ¬ mineX X pv nv kv ku N) := Lib.hid ⟨(Array.getElem?_eq_some_iff.1 HBA.out).1, fun e => by
    have h2 := HH.out.lt N (.inl e)
    have := HN.out
    omega⟩
  have HX := Lib.hid hx1; have HNM := Lib.hid hNm; have HBN := Lib.hid hbN
  clear cF hx1 hk1 ho1 hNm hbN
  by_cases hn : n < 1
  · go_wp2
    refine bodyPost_ret (results_none rfl _ _ _) rfl ?_
    refine ⟨rfl, ?_⟩
    unfold XPutRet
    rw [if_pos hn]
    exact HR.out
  · obtain ⟨SR, hSR⟩ : ∃ SR : Nat → Prop, SR = fun k => some k = pv1.ownBlock ∨ some k = nv1.ownBlock := ⟨_, rfl⟩
    have hXS : ¬ SR X := by
      rw [hSR]
      rintro (e | e)
      · exact HX.out.notX X (.inl e) rfl
      · exact HX.out.notX X (.inr (.inl e)) rfl
    have hNS : ¬ SR N := by
      rw [hSR]
      rintro (e | e)
      · exact HNM.out (.inr (.inl e))
      · exact HNM.out (.inr (.inr (.inl e)))
    have hXlt := HX.out.lt X (.inl (.inl rfl))
    have hNlt := (Array.getElem?_eq_some_iff.1 HBN.out).1
    have HAX : Hid (∀ W, Kept SR wr W → AtX X N pv1 nv1 p1 p2 W) := Lib.hid fun W hk => by
      have e1 := (hk.block X hXlt hXS).trans HX.out.cnt.box
      have e2 := (hk.block N hNlt hNS).trans HBN.out
      exact ⟨by rw [cell_of_row W X _ _ 38 (0, 0) e1]; rfl, by rw [cell_of_row W X _ _ 38 (0, 0) e1]; rfl, by rw [cell_of_row W N _ _ 41 (0, 0) e2]; rfl, by rw [cell_of_row W N _ _ 41 (0, 0) e2]; rfl, Lib.frozen_of_heap e1 _, Lib.frozen_of_heap e1 _⟩
    have HBX : Hid (∀ W, Kept SR wr W → ∀ x, (W.setCell ⟨X, 1, none⟩ x).cell? ⟨X, 2, none⟩ = some nv1 ∧ (W.setCell ⟨X, 1, none⟩ x).frozen? ⟨X, 2, none⟩ = false) := Lib.hid fun W hk x => by
      have e1 := heap_setCell_at (i := 1) ((hk.block X hXlt hXS).trans HX.out.cnt.box) x
      exact ⟨by rw [cell_of_row _ X _ _ 38 (0, 0) e1]; rfl, Lib.frozen_of_heap e1 _⟩
    have HP := Lib.hid HX.out.rows
    have HC := Lib.hid HX.out.nums
    have HPl : Hid (P.length ≤ 1000) := Lib.hid hPl
    have HCl : Hid (C.length ≤ 1000) := Lib.hid (by omega)
    have HSP : Hid (∀ k, some k = pv1.ownBlock → SR k) := Lib.hid (by rw [hSR]; exact fun k e => .inl e)
    have HSN : Hid (∀ k, some k = nv1.ownBlock → SR k) := Lib.hid (by rw [hSR]; exact fun k e => .inr e)
    have HSR := Lib.hid hSR
    have HPC := Lib.hid hPC
    clear hSR hXS hNS hXlt hNlt hPC
    go_upto_region 3 with fail
    go_cut [] from 11 to 30 (fun wc => XRet wr X T tv tp pv1 nv1 kv1 ku1 J (P ++ [(p1, p2)]) (C ++ [n]) (delC M (p1, p2)) pu po pk re wc)
    case first =>
      obtain ⟨W0, hW0⟩ : ∃ W0, wr.drew = W0 := ⟨_, rfl⟩
      have x0 : XSt SR wr pv1 nv1 W0 pv1 nv1 P C := by rw [← hW0]; exact ⟨(Kept.refl _ _).drew, HP.out.drew, HC.out.drew, fun _ e _ => e, fun _ e _ => e⟩
      have hS0 : AtX X N pv1 nv1 p1 p2 W0 := HAX.out W0 x0.kept
      refine region_K (S := AtX X N pv1 nv1 p1 p2) [0, 1, 2, 3, 4, 9, 10, 11, 13, 16, 17, 18, 19, 20, 21] hmixed ?_
      rw [hW0]
      clear hW0
      refine K_pure (i := 0) (oi := _) (v := ?_) rfl rfl (by kernel_rfl) (fun _ _ _ h => h) (by kernel_rfl) (by kernel_rfl) (Or.inl ⟨by rfl, ?_⟩) ?_
      rotate_left
      · (intro w _; go_simp; try with_reducible rfl)
      try simp only [Act.put, List.setIfInBounds_toArray, List.set_cons_zero, List.set_cons_succ]
      refine K_pure (i := 1) (oi := _) (v := ?_) rfl rfl (by kernel_rfl) (fun _ _ _ h => h) (by kernel_rfl) (by kernel_rfl) (Or.inl ⟨by rfl, ?_⟩) ?_
      rotate_left
      · (intro w _; go_simp; try with_reducible rfl)
      try simp only [Act.put, List.setIfInBounds_toArray, List.set_cons_zero, List.set_cons_succ]
      refine K_pure (i := 2) (oi := _) (v := ?_) rfl rfl (by kernel_rfl) (fun _ _ _ h => h) (by kernel_rfl) (by kernel_rfl) (Or.inl ⟨by rfl, ?_⟩) ?_
      rotate_left
      · (intro w _; go_simp; try with_reducible rfl)
      try simp only [Act.put, List.setIfInBounds_toArray, List.set_cons_zero, List.set_cons_succ]
      refine K_pure (i := 9) (oi := _) (v := ?_) rfl rfl (by kernel_rfl) (fun _ _ _ h => h) (by kernel_rfl) (by kernel_rfl) (Or.inl ⟨by rfl, ?_⟩) ?_
      rotate_left
      · (intro w _; go_simp; try with_reducible rfl)
      try simp only [Act.put, List.setIfInBounds_toArray, List.set_cons_zero, List.set_cons_succ]
      refine K_pure (i := 13) (oi := _) (v := ?_) rfl rfl (by kernel_rfl) (fun _ _ _ h => h) (by kernel_rfl) (by kernel_rfl) (Or.inl ⟨by rfl, ?_⟩) ?_
      rotate_left
      · (intro w _; go_simp; try with_reducible rfl)
      try simp only [Act.put, List.setIfInBounds_toArray, List.set_cons_zero, List.set_cons_succ]
      refine K_pure (i := 3) (oi := _) (v := ?_) rfl rfl (by kernel_rfl) (fun _ _ _ h => h) (by kernel_rfl) (by kernel_rfl) (Or.inl ⟨by rfl, ?_⟩) ?_
      rotate_left
      · (intro w _; go_simp; try with_reducible rfl)
      try simp only [Act.put, List.setIfInBounds_toArray, List.set_cons_zero, List.set_cons_succ]
      refine K_pure (i := 4) (oi := _) (v := ?_) rfl rfl (by kernel_rfl) (fun _ _ _ h => h) (by kernel_rfl) (by kernel_rfl) (Or.inl ⟨by rfl, ?_⟩) ?_
      rotate_left
      · (intro w _; go_simp; try with_reducible rfl)
      try simp only [Act.put, List.setIfInBounds_toArray, List.set_cons_zero, List.set_cons_succ]
      refine K_pure (i := 10) (oi := _) (v := ?_) rfl rfl (by kernel_rfl) (fun _ _ _ h => h) (by kernel_rfl) (by kernel_rfl) (Or.inl ⟨by rfl, ?_⟩) ?_
      rotate_left
      · (intro w _; go_simp; try with_reducible rfl)
      try simp only [Act.put, List.setIfInBounds_toArray, List.set_cons_zero, List.set_cons_succ]
      refine K_pure (i := 11) (oi := _) (v := ?_) rfl rfl (by kernel_rfl) (fun _ _ _ h => h) (by kernel_rfl) (by kernel_rfl) (Or.inl ⟨by rfl, ?_⟩) ?_
      rotate_left
      · (intro w _; go_simp; try with_reducible rfl)
      try simp only [Act.put, List.setIfInBounds_toArray, List.set_cons_zero, List.set_cons_succ]
      refine K_at (i := 5) (oi := _) (v := ?_) rfl (by kernel_rfl) (by kernel_rfl) (by kernel_rfl) (by kernel_rfl) (fun _ _ _ h => h) (Or.inl ⟨by rfl, ?_⟩) (by assumption) ?_
      rotate_left
      · (intro w hSw; (try dsimp only at hSw); go_simp; try with_reducible rfl)
      try simp only [Act.put, List.setIfInBounds_toArray, List.set_cons_zero, List.set_cons_succ]
      refine K_at (i := 6) (oi := _) (v := ?_) rfl (by kernel_rfl) (by kernel_rfl) (by kernel_rfl) (by kernel_rfl) (fun _ _ _ h => h) (Or.inl ⟨by rfl, ?_⟩) (by assumption) ?_
      rotate_left
      · (intro w hSw; (try dsimp only at hSw); go_simp; try with_reducible rfl)
      try simp only [Act.put, List.setIfInBounds_toArray, List.set_cons_zero, List.set_cons_succ]
      refine K_at (i := 12) (oi := _) (v := ?_) rfl (by kernel_rfl) (by kernel_rfl) (by kernel_rfl) (by kernel_rfl) (fun _ _ _ h => h) (Or.inl ⟨by rfl, ?_⟩) (by assumption) ?_
      rotate_left
      · (intro w hSw; (try dsimp only at hSw); go_simp; try with_reducible rfl)
      try simp only [Act.put, List.setIfInBounds_toArray, List.set_cons_zero, List.set_cons_succ]
      refine K_two 7 14 (by kernel_rfl) rfl rfl ?_ ?_
      · intro K hK
        go_simp
        refine hK.out _ _ (fun _ => HAX.out _ (x0.alloc _).kept) ?_
        have x1 := x0.alloc (.cells #[.int .i64 p1, .int .i64 p2] 41)
        have lP1 : LitAt pairE wr (W0.alloc (.cells #[.int .i64 p1, .int .i64 p2] 41)) W0.heap.size (p1, p2) := LitAt.new (R := pairE) (p1, p2) x0.kept.size
        clear hK K
        generalize W0.alloc (.cells #[.int .i64 p1, .int .i64 p2] 41) = W1 at *
        try simp only [Act.put, List.setIfInBounds_toArray, List.set_cons_zero, List.set_cons_succ]
        refine K_two 8 14 (by kernel_rfl) rfl rfl ?_ ?_
        · intro K hK
          refine step_append_elts pairE rfl (.tmp 16) (.tmp 18) rfl 0 pv1 (.slice (some ⟨W0.heap.size, 0, none⟩) 1 1) P [(p1, p2)] rfl rfl x1.rows lP1.row (someNone _ _ _) (by have := HPl.out; simp only [List.length_singleton]; omega) (Nat.zero_le _) ?_
          intro rp W2 ho hg hr
          have x2 := x1.appP ho hg hr HSP.out
          refine hK.out _ _ (fun _ => HAX.out _ x2.kept) ?_
          clear hK K hg hr
          obtain ⟨rpa, rpc, e, _⟩ := ho.form
          rw [List.length_append, List.length_singleton] at e
          subst e
          clear ho
          try simp only [Act.put, List.setIfInBounds_toArray, List.set_cons_zero, List.set_cons_succ]
          refine K_only 14 (by kernel_rfl) rfl ?_
          intro K hK
          go_simp
          refine hK.out _ _ (fun _ => HAX.out _ (x2.alloc _).kept) ?_
          have x3 := x2.alloc (.cells #[.int .i64 n] 3)
          have lN3 : LitAt intE wr (W2.alloc (.cells #[.int .i64 n] 3)) W2.heap.size n := LitAt.new (R := intE) n x2.kept.size
          clear hK K
          generalize W2.alloc (.cells #[.int .i64 n] 3) = W3 at *
          try simp only [Act.put, List.setIfInBounds_toArray, List.set_cons_zero, List.set_cons_succ]
          refine K_only 15 (by kernel_rfl) rfl ?_
          intro K hK
          refine step_append_elts intE rfl (.tmp 23) (.tmp 25) rfl 0 nv1 (.slice (some ⟨W2.heap.size, 0, none⟩) 1 1) C [n] rfl rfl x3.nums lN3.row (someNone _ _ _) (by have := HCl.out; simp only [List.length_singleton]; omega) (Nat.zero_le _) ?_
          intro rc W4 ho hg hr
          have x4 := x3.appN ho hg hr HSN.out
          refine hK.out _ _ (fun _ => HAX.out _ x4.kept) ?_
          clear hK K hg hr
          obtain ⟨rca, rcc, e, _⟩ := ho.form
          rw [List.length_append, List.length_singleton] at e
          subst e
          clear ho
          try simp only [Act.put, List.setIfInBounds_toArray, List.set_cons_zero, List.set_cons_succ]
          obtain ⟨q1, q2, _, _, q5, q6⟩ := HAX.out W4 x4.kept
          have hD := new_rows HX.out HSR.out x4
          obtain ⟨r2, r3⟩ := HBX.out W4 x4.kept (.slice rpa (P.length + 1) rpc)
          refine K_pure (i := 16) (oi := _) (v := ?_) rfl rfl (by kernel_rfl) (fun _ _ _ h => h) (by kernel_rfl) (by kernel_rfl) (Or.inl ⟨by rfl, ?_⟩) ?_
          rotate_left
          · (intro w _; go_simp; try with_reducible rfl)
          try simp only [Act.put, List.setIfInBounds_toArray, List.set_cons_zero, List.set_cons_succ]
          refine K_pure (i := 17) (oi := _) (v := ?_) rfl rfl (by kernel_rfl) (fun _ _ _ h => h) (by kernel_rfl) (by kernel_rfl) (Or.inl ⟨by rfl, ?_⟩) ?_
          rotate_left
          · (intro w _; go_simp; try with_reducible rfl)
          try simp only [Act.put, List.setIfInBounds_toArray, List.set_cons_zero, List.set_cons_succ]
          refine K_only 18 (by kernel_rfl) rfl ?_
          intro K hK
          go_simp
          refine hK.out _ _ (fun h => by cases h) ?_
          clear hK K
          generalize W4.setCell ⟨X, 1, none⟩ (.slice rpa (P.length + 1) rpc) = V at *
          try simp only [Act.put, List.setIfInBounds_toArray, List.set_cons_zero, List.set_cons_succ]
          refine K_pure (i := 19) (oi := _) (v := ?_) rfl rfl (by kernel_rfl) (fun _ _ _ h => h) (by kernel_rfl) (by kernel_rfl) (Or.inl ⟨by rfl, ?_⟩) ?_
          rotate_left
          · (intro w _; go_simp; try with_reducible rfl)
          try simp only [Act.put, List.setIfInBounds_toArray, List.set_cons_zero, List.set_cons_succ]
          refine K_pure (i := 20) (oi := _) (v := ?_) rfl rfl (by kernel_rfl) (fun _ _ _ h => h) (by kernel_rfl) (by kernel_rfl) (Or.inl ⟨by rfl, ?_⟩) ?_
          rotate_left
          · (intro w _; go_simp; try with_reducible rfl)
          try simp only [Act.put, List.setIfInBounds_toArray, List.set_cons_zero, List.set_cons_succ]
          refine K_only 21 (by kernel_rfl) rfl ?_
          intro K hK
          go_simp
          refine hK.out _ _ (fun h => by cases h) ?_
          clear hK K
          try simp only [Act.put, List.setIfInBounds_toArray, List.set_cons_zero, List.set_cons_succ]
          refine K_done (by kernel_rfl) ?_ _
          go_wp2_with fail
          go_meet
          case rel => exact hD
        · intro K hK
          go_simp
          refine hK.out _ _ (fun _ => HAX.out _ (x1.alloc _).kept) ?_
          have x5 := x1.alloc (.cells #[.int .i64 n] 3)
          have lN5 : LitAt intE wr (W1.alloc (.cells #[.int .i64 n] 3)) W1.heap.size n := LitAt.new (R := intE) n x1.kept.size
          have lP5 := lP1.alloc (.cells #[.int .i64 n] 3)
          clear hK K
          generalize W1.alloc (.cells #[.int .i64 n] 3) = W5 at *
          try simp only [Act.put, List.setIfInBounds_toArray, List.set_cons_zero, List.set_cons_succ]
          refine K_only 8 (by kernel_rfl) rfl ?_
          intro K hK
          refine step_append_elts pairE rfl (.tmp 16) (.tmp 18) rfl 0 pv1 (.slice (some ⟨W0.heap.size, 0, none⟩) 1 1) P [(p1, p2)] rfl rfl x5.rows lP5.row (someNone _ _ _) (by have := HPl.out; simp only [List.length_singleton]; omega) (Nat.zero_le _) ?_
          intro rp W6 ho hg hr
          have x6 := x5.appP ho hg hr HSP.out
          have lN6 := lN5.app HP.out hg
          refine hK.out _ _ (fun _ => HAX.out _ x6.kept) ?_
          clear hK K hg hr
          obtain ⟨rpa, rpc, e, _⟩ := ho.form
          rw [List.length_append, List.length_singleton] at e
          subst e
          clear ho
          try simp only [Act.put, List.setIfInBounds_toArray, List.set_cons_zero, List.set_cons_succ]
          refine K_only 15 (by kernel_rfl) rfl ?_
          intro K hK
          refine step_append_elts intE rfl (.tmp 23) (.tmp 25) rfl 0 nv1 (.slice (some ⟨W1.heap.size, 0, none⟩) 1 1) C [n] rfl rfl x6.nums lN6.row (someNone _ _ _) (by have := HCl.out; simp only [List.length_singleton]; omega) (Nat.zero_le _) ?_
          intro rc W7 ho hg hr
          have x7 := x6.appN ho hg hr HSN.out
          refine hK.out _ _ (fun _ => HAX.out _ x7.kept) ?_
          clear hK K hg hr
          obtain ⟨rca, rcc, e, _⟩ := ho.form
          rw [List.length_append, List.length_singleton] at e
          subst e
          clear ho
          try simp only [Act.put, List.setIfInBounds_toArray, List.set_cons_zero, List.set_cons_succ]
          obtain ⟨q1, q2, _, _, q5, q6⟩ := HAX.out W7 x7.kept
          have hD := new_rows HX.out HSR.out x7
          obtain ⟨r2, r3⟩ := HBX.out W7 x7.kept (.slice rpa (P.length + 1) rpc)
          refine K_pure (i := 16) (oi := _) (v := ?_) rfl rfl (by kernel_rfl) (fun _ _ _ h => h) (by kernel_rfl) (by kernel_rfl) (Or.inl ⟨by rfl, ?_⟩) ?_
          rotate_left
          · (intro w _; go_simp; try with_reducible rfl)
          try simp only [Act.put, List.setIfInBounds_toArray, List.set_cons_zero, List.set_cons_succ]
          refine K_pure (i := 17) (oi := _) (v := ?_) rfl rfl (by kernel_rfl) (fun _ _ _ h => h) (by kernel_rfl) (by kernel_rfl) (Or.inl ⟨by rfl, ?_⟩) ?_
          rotate_left
          · (intro w _; go_simp; try with_reducible rfl)
          try simp only [Act.put, List.setIfInBounds_toArray, List.set_cons_zero, List.set_cons_succ]
          refine K_only 18 (by kernel_rfl) rfl ?_
          intro K hK
          go_simp
          refine hK.out _ _ (fun h => by cases h) ?_
          clear hK K
          generalize W7.setCell ⟨X, 1, none⟩ (.slice rpa (P.length + 1) rpc) = V at *
          try simp only [Act.put, List.setIfInBounds_toArray, List.set_cons_zero, List.set_cons_succ]
          refine K_pure (i := 19) (oi := _) (v := ?_) rfl rfl (by kernel_rfl) (fun _ _ _ h => h) (by kernel_rfl) (by kernel_rfl) (Or.inl ⟨by rfl, ?_⟩) ?_
          rotate_left
          · (intro w _; go_simp; try with_reducible rfl)
          try simp only [Act.put, List.setIfInBounds_toArray, List.set_cons_zero, List.set_cons_succ]
          refine K_pure (i := 20) (oi := _) (v := ?_) rfl rfl (by kernel_rfl) (fun _ _ _ h => h) (by kernel_rfl) (by kernel_rfl) (Or.inl ⟨by rfl, ?_⟩) ?_
          rotate_left
          · (intro w _; go_simp; try with_reducible rfl)
          try simp only [Act.put, List.setIfInBounds_toArray, List.set_cons_zero, List.set_cons_succ]
          refine K_only 21 (by kernel_rfl) rfl ?_
          intro K hK
          go_simp
          refine hK.out _ _ (fun h => by cases h) ?_
          clear hK K
          try simp only [Act.put, List.setIfInBounds_toArray, List.set_cons_zero, List.set_cons_succ]
          refine K_done (by kernel_rfl) ?_ _
          go_wp2_with fail
          go_meet
          case rel => exact hD
      · intro K hK
        go_simp
        refine hK.out _ _ (fun _ => HAX.out _ (x0.alloc _).kept) ?_
        have x8 := x0.alloc (.cells #[.int .i64 n] 3)
        have lN8 : LitAt intE wr (W0.alloc (.cells #[.int .i64 n] 3)) W0.heap.size n := LitAt.new (R := intE) n x0.kept.size
        clear hK K
        generalize W0.alloc (.cells #[.int .i64 n] 3) = W8 at *
        try simp only [Act.put, List.setIfInBounds_toArray, List.set_cons_zero, List.set_cons_succ]
        refine K_only 7 (by kernel_rfl) rfl ?_
        intro K hK
        go_simp
        refine hK.out _ _ (fun _ => HAX.out _ (x8.alloc _).kept) ?_
        have x9 := x8.alloc (.cells #[.int .i64 p1, .int .i64 p2] 41)
        have lP9 : LitAt pairE wr (W8.alloc (.cells #[.int .i64 p1, .int .i64 p2] 41)) W8.heap.size (p1, p2) := LitAt.new (R := pairE) (p1, p2) x8.kept.size
        have lN9 := lN8.alloc (.cells #[.int .i64 p1, .int .i64 p2] 41)
        clear hK K
        generalize W8.alloc (.cells #[.int .i64 p1, .int .i64 p2] 41) = W9 at *
        try simp only [Act.put, List.setIfInBounds_toArray, List.set_cons_zero, List.set_cons_succ]
        refine K_only 8 (by kernel_rfl) rfl ?_
        intro K hK
        refine step_append_elts pairE rfl (.tmp 16) (.tmp 18) rfl 0 pv1 (.slice (some ⟨W8.heap.size, 0, none⟩) 1 1) P [(p1, p2)] rfl rfl x9.rows lP9.row (someNone _ _ _) (by have := HPl.out; simp only [List.length_singleton]; omega) (Nat.zero_le _) ?_
        intro rp W10 ho hg hr
        have x10 := x9.appP ho hg hr HSP.out
        have lN10 := lN9.app HP.out hg
        refine hK.out _ _ (fun _ => HAX.out _ x10.kept) ?_
        clear hK K hg hr
        obtain ⟨rpa, rpc, e, _⟩ := ho.form
        rw [List.length_append, List.length_singleton] at e
        subst e
        clear ho
        try simp only [Act.put, List.setIfInBounds_toArray, List.set_cons_zero, List.set_cons_succ]
        refine K_only 15 (by kernel_rfl) rfl ?_
        intro K hK
        refine step_append_elts intE rfl (.tmp 23) (.tmp 25) rfl 0 nv1 (.slice (some ⟨W0.heap.size, 0, none⟩) 1 1) C [n] rfl rfl x10.nums lN10.row (someNone _ _ _) (by have := HCl.out; simp only [List.length_singleton]; omega) (Nat.zero_le _) ?_
        intro rc W11 ho hg hr
        have x11 := x10.appN ho hg hr HSN.out
        refine hK.out _ _ (fun _ => HAX.out _ x11.kept) ?_
        clear hK K hg hr
        obtain ⟨rca, rcc, e, _⟩ := ho.form
        rw [List.length_append, List.length_singleton] at e
        subst e
        clear ho
        try simp only [Act.put, List.setIfInBounds_toArray, List.set_cons_zero, List.set_cons_succ]
        obtain ⟨q1, q2, _, _, q5, q6⟩ := HAX.out W11 x11.kept
        have hD := new_rows HX.out HSR.out x11
        obtain ⟨r2, r3⟩ := HBX.out W11 x11.kept (.slice rpa (P.length + 1) rpc)
        refine K_pure (i := 16) (oi := _) (v := ?_) rfl rfl (by kernel_rfl) (fun _ _ _ h => h) (by kernel_rfl) (by kernel_rfl) (Or.inl ⟨by rfl, ?_⟩) ?_
        rotate_left
        · (intro w _; go_simp; try with_reducible rfl)
        try simp only [Act.put, List.setIfInBounds_toArray, List.set_cons_zero, List.set_cons_succ]
        refine K_pure (i := 17) (oi := _) (v := ?_) rfl rfl (by kernel_rfl) (fun _ _ _ h => h) (by kernel_rfl) (by kernel_rfl) (Or.inl ⟨by rfl, ?_⟩) ?_
        rotate_left
        · (intro w _; go_simp; try with_reducible rfl)
        try simp only [Act.put, List.setIfInBounds_toArray, List.set_cons_zero, List.set_cons_succ]
        refine K_only 18 (by kernel_rfl) rfl ?_
        intro K hK
        go_simp
        refine hK.out _ _ (fun h => by cases h) ?_
        clear hK K
        generalize W11.setCell ⟨X, 1, none⟩ (.slice rpa (P.length + 1) rpc) = V at *
        try simp only [Act.put, List.setIfInBounds_toArray, List.set_cons_zero, List.set_cons_succ]
        refine K_pure (i := 19) (oi := _) (v := ?_) rfl rfl (by kernel_rfl) (fun _ _ _ h => h) (by kernel_rfl) (by kernel_rfl) (Or.inl ⟨by rfl, ?_⟩) ?_
        rotate_left
        · (intro w _; go_simp; try with_reducible rfl)
        try simp only [Act.put, List.setIfInBounds_toArray, List.set_cons_zero, List.set_cons_succ]
        refine K_pure (i := 20) (oi := _) (v := ?_) rfl rfl (by kernel_rfl) (fun _ _ _ h => h) (by kernel_rfl) (by kernel_rfl) (Or.inl ⟨by rfl, ?_⟩) ?_
        rotate_left
        · (intro w _; go_simp; try with_reducible rfl)
        try simp only [Act.put, List.setIfInBounds_toArray, List.set_cons_zero, List.set_cons_succ]
        refine K_only 21 (by kernel_rfl) rfl ?_
        intro K hK
        go_simp
        refine hK.out _ _ (fun h => by cases h) ?_
        clear hK K
        try simp only [Act.put, List.setIfInBounds_toArray, List.set_cons_zero, List.set_cons_succ]
        refine K_done (by kernel_rfl) ?_ _
        go_wp2_with fail
        go_meet
        case rel => exact hD
    case rest =>
      have hq := xstep HST.out.1 HST.out.2 hcut
      have hbc := (hq.block HNA.out.1 HNA.out.2).trans HBA.out
      obtain ⟨pv2, nv2, kv2, ku2, hx2, hk2, ho2⟩ := hq
      have hcm := hx2.good
      have hris := HH.out.good.ris
      have hkn : addC (delC M (p1, p2)) (p1, p2) n 1 = (insC (p1, p2) n M, 0) := by
        rw [add_fresh (get_delC hris (p1, p2)) (by omega) hn2.2, set_delC hris, set_ins (p1, p2) (by omega)]
      have hgi : GoodC (insC (p1, p2) n M) := by
        have := hcm.add HPR.out n 1
        rw [hkn] at this
        exact this
      have HAD : Hid (∀ W, Grown wc W → Calls Try.prog 12 #[.pointer (some ⟨X, 3, none⟩), .agg #[.int .i64 p1, .int .i64 p2], .int .i64 n, .int .i64 1] W fun e w' => e = .returned (.int .i64 0) ∧ Kept (fun k => k = X) wc w' ∧ XRet wc X T tv tp pv2 nv2 kv2 ku2 J (P ++ [(p1, p2)]) (C ++ [n]) (insC (p1, p2) n M) pu po pk re w') := Lib.hid fun W g => by
        have hW := hx2.grown g
        have c := dradd_any 0 X 3 _ _ kv2 ku2 (delC M (p1, p2)) p1 p2 n 1 W hW.cnt hW.good hn2 ⟨by omega, by omega⟩ (by have := del_len_le M (p1, p2); omega)
        rw [hkn] at c
        exact c.mono fun e w' he => by
          obtain ⟨e1, kv', ku', r1, r2, r3⟩ := he
          exact ⟨e1, (Kept.of_below (S := fun k => k = X) g.below (Nat.le_refl _)).trans r2 fun _ _ h => h, (hW.known r1 r2 r3 hgi).after g.below⟩
      have hNc : N < wc.heap.size := (Array.getElem?_eq_some_iff.1 hbc).1
      have hNX : N ≠ X := fun e => HNA.out.2 (.inl e)
      have HSG : Hid (∀ W, Grown wc W → W.cell? ⟨N, 0, none⟩ = some (.int .i64 p1) ∧ W.cell? ⟨N, 1, none⟩ = some (.int .i64 p2)) := Lib.hid fun W g =>
        ⟨by rw [cell_of_row W N _ _ 41 (0, 0) ((g.below.block N hNc).trans hbc)]; rfl, by rw [cell_of_row W N _ _ 41 (0, 0) ((g.below.block N hNc).trans hbc)]; rfl⟩
      have HSK : Hid (∀ W, Kept (fun k => k = X) wc W → W.cell? ⟨N, 0, none⟩ = some (.int .i64 p1) ∧ W.cell? ⟨N, 1, none⟩ = some (.int .i64 p2)) := Lib.hid fun W g =>
        ⟨by rw [cell_of_row W N _ _ 41 (0, 0) ((g.block N hNc hNX).trans hbc)]; rfl, by rw [cell_of_row W N _ _ 41 (0, 0) ((g.block N hNc hNX).trans hbc)]; rfl⟩
      have g00 := Grown.refl wc
      obtain ⟨s0, s1⟩ := HSG.out wc g00
      have HS2 := Lib.hid (And.intro hk2 ho2)
      have HGI := Lib.hid hgi
      clear hbc hx2 hk2 ho2 hcm hris hkn hgi hNc hNX hcut HAX HBX
      go_wp2_with fail
      go_region_held3 (fun w' => w'.cell? ⟨N, 0, none⟩ = some (.int .i64 p1) ∧ w'.cell? ⟨N, 1, none⟩ = some (.int .i64 p2))
        (first | with_reducible exact ⟨s0, s1⟩ | with_reducible exact HSG.out _ (by assumption) | with_reducible exact HSG.out _ (Grown.drew (by assumption)) | with_reducible exact HSK.out _ hk5)
        ((go_at_call 12
          refine (HAD.out _ (by first | assumption | exact Grown.drew (by assumption))).mono ?_
          rintro e w5 ⟨rfl, hk5, hr5⟩
          have HR5 := Lib.hid hr5
          clear hr5))
      obtain ⟨Kn, hKn⟩ : ∃ Kn, insC (p1, p2) n M = Kn := ⟨_, rfl⟩
      obtain ⟨l, hl⟩ : ∃ l, P.length + 1 = l := ⟨_, rfl⟩
      obtain ⟨k, hk⟩ : ∃ k, Kn.length = k := ⟨_, rfl⟩
      have hKl : k ≤ 1000 := by rw [← hk, ← hKn]; have := ins_len_le HH.out.good.ris (p1, p2) n; omega
      have hll : (P ++ [(p1, p2)]).length = l := by rw [List.length_append, List.length_singleton]; exact hl
      have hl2 : l ≤ 1001 := by omega
      have hr5 := xstep HS2.out.1 HS2.out.2 HR5.out
      rw [hKn] at hr5
      -- one more was put
      obtain ⟨pv3, nv3, kv3, ku3, hx3, hk3, ho3⟩ := hr5
      obtain ⟨_, _, _, _, _, _, _, x7, _, _, _⟩ := hx3.cells
      have z7 := hx3.frozen 7
      have hpu1 : IntKind.i64.wrap (pu + 1) = pu + 1 := IntWalk.i64_in _ (by omega)
      obtain ⟨w6, hw6⟩ : ∃ w6, w5.setCell ⟨X, 7, none⟩ (.int .i64 (pu + 1)) = w6 := ⟨_, rfl⟩
      have hr6 : XRet wa X T tv tp pv nv kv ku J (P ++ [(p1, p2)]) (C ++ [n]) Kn (pu + 1) po pk re w6 := xstep hk3 ho3 (by rw [← hw6]; exact hx3.num (by decide) rfl)
      -- the most there were
      obtain ⟨pv4, nv4, kv4, ku4, hx4, hk4, ho4⟩ := hr6
      obtain ⟨_, y1, _, _, _, _, _, _, _, y9, _⟩ := hx4.cells
      have z9 := hx4.frozen 9
      obtain ⟨a4, c4, e4, _⟩ := hx4.rows.form
      rw [hll] at e4
      rw [e4] at y1
      obtain ⟨w7, hw7⟩ : ∃ w7, w6.drew.setCell ⟨X, 9, none⟩ (.int .i64 (max pk (l : Int))) = w7 := ⟨_, rfl⟩
      have hr7 : XRet wa X T tv tp pv nv kv ku J (P ++ [(p1, p2)]) (C ++ [n]) Kn (pu + 1) po (max pk (l : Int)) re w7 := xstep hk4 ho4 (by rw [← hw7]; exact (hx4.drew.num (by decide) rfl).after ((Below.refl _ w6).drew))
      have HR7 := Lib.hid hr7
      -- is it to be built anew?
      obtain ⟨pv5, nv5, kv5, ku5, hx5, hk5', ho5⟩ := hr7
      obtain ⟨_, v1, _, v3, _, _, _, _, _, _, _⟩ := hx5.cells
      obtain ⟨a5, c5, e5, _⟩ := hx5.rows.form
      rw [hll] at e5
      rw [e5] at v1
      obtain ⟨a6, c6, e6, _⟩ := hx5.cnt.keys.form
      rw [keysC_len, hk] at e6
      rw [e6] at v3
      have hk2 : IntKind.i64.wrap (2 * (k : Int)) = 2 * (k : Int) := IntWalk.i64_in _ (by omega)
      have HL := Lib.hid (And.intro hKn (And.intro hl hk))
      have hm : ∀ b, manyQ l k = b → ∀ w', (bif b then XRet wa X T tv tp pv nv kv ku J (keysC Kn) (valsC Kn) Kn (pu + 1) po (max pk (l : Int)) (re + 1) w' else XRet wa X T tv tp pv nv kv ku J (P ++ [(p1, p2)]) (C ++ [n]) Kn (pu + 1) po (max pk (l : Int)) re w') → XPutRet w X T tv tp pv nv kv ku J P C M pu po pk re (p1, p2) n w' := fun b hb w' h => by
        unfold XPutRet
        rw [if_neg (by omega), hKn, hl, hk, hb]
        cases b
        · exact XRet.after h HG.out.below
        · exact XRet.after h HG.out.below
      have HM := Lib.hid hm
      clear hm hKn hl hk HR5 hx3 hk3 ho3 hx4 hk4 ho4 hx5 hk5' ho5 e4 e5 e6 hll s0 s1 HSG HSK HAD g00 hk5
      go_wp2_with fail
      go_region
      all_goals (
        by_cases h16 : (16 : Int) < (l : Int)
        · by_cases h2k : 2 * (k : Int) < (l : Int)
          · have hm : manyQ l k = true := by unfold manyQ; simp; omega
            have HF := Lib.hid (HM.out true hm)
            clear hm HM
            go_wp2_with fail
            go_quiet (fail)
            have hz := HR7.out.grown (w' := w7.drewN nq) ((Grown.refl w7).drewN nq).below
            clear x7 z7 y1 z9 v1 v3 hw6 hw7 HR7 hpu1 hk2 h16 h2k
            generalize w7.drewN nq = wz at *
            obtain ⟨pv6, nv6, kv6, ku6, hx6, hk6, ho6⟩ := hz
            obtain ⟨wE, hwE⟩ : ∃ wE, wz.alloc (.cells #[] 41) = wE := ⟨_, rfl⟩
            have hA : ownE pairE wE wz.heap.size (.slice (some ⟨wz.heap.size, 0, none⟩) 0 0) [] := by rw [← hwE]; exact xempty pairE wz
            have hBE : Below wz.heap.size wz wE := by rw [← hwE]; exact (Below.refl _ wz).alloc (Nat.le_refl _) _
            have hxE := hx6.below hBE
            obtain ⟨_, _, _, b3, _, _, _, _, _, _, _⟩ := hxE.cells
            obtain ⟨a7, c7, e7, _⟩ := hxE.cnt.keys.form
            have HE7 := Lib.hid hxE.cnt.keys.reads
            have HN7 := Lib.hid hxE.cnt.keys.nilNone
            rw [keysC_len, HL.out.2.2] at e7
            rw [e7] at b3 HE7 HN7
            have HA := Lib.hid hA
            have HBE := Lib.hid hBE
            have HX6 := Lib.hid hx6
            have HS6 := Lib.hid (And.intro hk6 ho6)
            have HKL : Hid (([] : List (Int × Int)).length + (keysC Kn).length ≤ 1048576) := Lib.hid (by rw [keysC_len, HL.out.2.2]; simp; omega)
            clear hA hBE hxE hx6 hk6 ho6 e7
            go_wp2_with (first
              | (at_builtin
                 refine wpList_append_elts pairE rfl (.tmp 83) (.tmp 88) rfl wz.heap.size (.slice (some ⟨wz.heap.size, 0, none⟩) 0 0) _ [] (keysC Kn) rfl rfl HA.out HE7.out HN7.out HKL.out HBE.out.size ?_
                 intro r w8 ho8 hg8 _
                 rw [List.nil_append] at ho8
                 have hb8 := xbelow HBE.out hg8 HA.out
                 obtain ⟨a8, c8, e8, _⟩ := ho8.form
                 rw [keysC_len, HL.out.2.2] at e8
                 subst e8
                 have hx8 := HX6.out.below hb8
                 obtain ⟨_, d1, _, _, _, _, _, _, _, _, _⟩ := hx8.cells
                 have d8 := hx8.frozen 1
                 obtain ⟨w9, hw9⟩ : ∃ w9, w8.setCell ⟨X, 1, none⟩ (.slice a8 k c8) = w9 := ⟨_, rfl⟩
                 have hr9 := xstep HS6.out.1 HS6.out.2 (by have := HX6.out.freshP hb8 ho8; rw [hw9] at this; exact this)
                 obtain ⟨pv9, nv9, kv9, ku9, hx9, hk9, ho9⟩ := hr9
                 obtain ⟨wF, hwF⟩ : ∃ wF, w9.alloc (.cells #[] 3) = wF := ⟨_, rfl⟩
                 have hA9 : ownE intE wF w9.heap.size (.slice (some ⟨w9.heap.size, 0, none⟩) 0 0) [] := by rw [← hwF]; exact xempty intE w9
                 have hBF : Below w9.heap.size w9 wF := by rw [← hwF]; exact (Below.refl _ w9).alloc (Nat.le_refl _) _
                 have hxF := hx9.below hBF
                 obtain ⟨_, _, _, _, f4, _, _, _, _, _, _⟩ := hxF.cells
                 obtain ⟨a9, c9, e9, _⟩ := hxF.cnt.vals.form
                 have HE9 := Lib.hid hxF.cnt.vals.reads
                 have HN9 := Lib.hid hxF.cnt.vals.nilNone
                 rw [valsC_len, HL.out.2.2] at e9
                 rw [e9] at f4 HE9 HN9
                 have HA9 := Lib.hid hA9
                 have HBF := Lib.hid hBF
                 have HX9 := Lib.hid hx9
                 have HS9 := Lib.hid (And.intro hk9 ho9)
                 have HVL : Hid (([] : List Int).length + (valsC Kn).length ≤ 1048576) := Lib.hid (by rw [valsC_len, HL.out.2.2]; simp; omega)
                 clear hA9 hBF hxF hx9 hk9 ho9 e9 hx8 hb8 ho8 hg8 hwE)
              | (at_builtin
                 refine wpList_append_elts intE rfl (.tmp 93) (.tmp 98) rfl w9.heap.size (.slice (some ⟨w9.heap.size, 0, none⟩) 0 0) _ [] (valsC Kn) rfl rfl HA9.out HE9.out HN9.out HVL.out HBF.out.size ?_
                 intro r w10 ho10 hg10 _
                 rw [List.nil_append] at ho10
                 have hb10 := xbelow HBF.out hg10 HA9.out
                 obtain ⟨a10, c10, e10, _⟩ := ho10.form
                 rw [valsC_len, HL.out.2.2] at e10
                 subst e10
                 have hx10 := HX9.out.below hb10
                 obtain ⟨_, _, d2, _, _, _, _, _, _, _, _⟩ := hx10.cells
                 have d9 := hx10.frozen 2
                 obtain ⟨w11, hw11⟩ : ∃ w11, w10.setCell ⟨X, 2, none⟩ (.slice a10 k c10) = w11 := ⟨_, rfl⟩
                 have hr11 := xstep HS9.out.1 HS9.out.2 (by have := HX9.out.freshN hb10 ho10; rw [hw11] at this; exact this)
                 obtain ⟨pv11, nv11, kv11, ku11, hx11, hk11, ho11⟩ := hr11
                 obtain ⟨_, _, _, _, _, _, _, _, _, _, g10⟩ := hx11.cells
                 have d10 := hx11.frozen 10
                 have hre1 : IntKind.i64.wrap (re + 1) = re + 1 := IntWalk.i64_in _ (by omega)
                 have HR12 : Hid (XRet wa X T tv tp pv nv kv ku J (keysC Kn) (valsC Kn) Kn (pu + 1) po (max pk (l : Int)) (re + 1) (w11.setCell ⟨X, 10, none⟩ (.int .i64 (re + 1)))) := Lib.hid (xstep hk11 ho11 (hx11.num (by decide) rfl))
                 clear hx11 hk11 ho11 hx10 hb10 ho10 hg10 hwF))
            go_end0
            exact ⟨rfl, HF.out _ (by rw [cond_true]; exact HR12.out)⟩
          · have hm : manyQ l k = false := by unfold manyQ; simp; omega
            have HF := Lib.hid (HM.out false hm)
            clear hm HM
            go_wp2_with fail
            go_quiet (fail)
            have HZ := Lib.hid (HR7.out.grown (w' := w7.drewN nq) ((Grown.refl w7).drewN nq).below)
            clear x7 z7 y1 z9 v1 v3 hw6 hw7 HR7 hpu1 hk2
            go_wp2
            go_end0
            exact ⟨rfl, HF.out _ (by rw [cond_false]; exact HZ.out)⟩
        · have hm : manyQ l k = false := by unfold manyQ; simp; omega
          have HF := Lib.hid (HM.out false hm)
          clear hm HM
          have hd16 : decide ((16 : Int) < (l : Int)) = false := decide_eq_false h16
          go_wp2_with fail
          refine wp_region_quiet_lit (by kernel_rfl) (by kernel_rfl) ?_
          repeat (first | go_big_quiet_skip | quiet_step (fail))
          refine wpQuiet_nil ?_
          intro _ hqq
          obtain ⟨nq, hq2⟩ := hqq
          subst hq2
          have HZ := Lib.hid (HR7.out.grown (w' := w7.drewN nq) ((Grown.refl w7).drewN nq).below)
          clear x7 z7 y1 z9 v1 v3 hw6 hw7 HR7 hpu1 hk2
          go_wp2
          go_end0
          exact ⟨rfl, HF.out _ (by rw [cond_false]; exact HZ.out)⟩)

end Go.Proofs.Ytbnekkcjkdghcaa
