/- Texts in one: TlStep. -/
import Derived.Test.YtnmacalbbmeedaaGreatQ43
import Derived.Test.YtnmacalbbmeedaaGreatQ45
/- A learner in memory, and its step. -/
namespace Go.Proofs.YtnmacalbbmeedaaGreat
open Go.RowKit Go.Maps Go.Shelf

/-- A learner in block K: S are its blocks. -/
def LrnO (L : Bag) (b d : Int) : LObj := fun w S K ms =>
  ∃ Kx Kq T N J M q S0, w.heap[K]? = some (lrnV Kx T Kq b d (bytesOf L : Int) (ms.length : Int)) ∧ Tr3 w S0 Kx Kq T N J M q ∧ TrAll L d N J M q ms ∧ (ms.length : Int) ≤ max b 0 ∧ ¬ S0 K ∧ (∀ k, k = K ∨ S0 k → S k) ∧ ∀ k, S k → k < w.heap.size
variable {w w' : World} {S : Nat → Prop} {K : Nat} {L : Bag} {b d : Int} {ms : List Mg}
set_option maxRecDepth 100000 in
theorem LrnO.kept (h : LrnO L b d w S K ms) (hk : ∀ k, k < w.heap.size → S k → w'.heap[k]? = w.heap[k]?) (hs : w.heap.size ≤ w'.heap.size) : LrnO L b d w' S K ms := by
  obtain ⟨Kx, Kq, T, N, J, M, q, S0, h1, h2, h3, h4, h5, h6, h7⟩ := h
  exact ⟨Kx, Kq, T, N, J, M, q, S0, (hk K (Array.getElem?_eq_some_iff.1 h1).1 (h6 K (.inl rfl))).trans h1, h2.kept (fun k a e => hk k a (h6 k (.inr e))) hs, h3, h4, h5, h6, fun k a => Nat.lt_of_lt_of_le (h7 k a) hs⟩
set_option maxRecDepth 100000 in
theorem LrnO.lt (h : LrnO L b d w S K ms) : ∀ k, S k → k < w.heap.size := by obtain ⟨_, _, _, _, _, _, _, _, _, _, _, _, _, _, h7⟩ := h; exact h7
/-- Behind Pop: the item's box, and whether there is one. -/
structure PopF (w1 : World) (S0 : Nat → Prop) (Kx Kq T N : Nat) (J : List Joint) (M : Mdl) (q : Qm) (s4 s5 : Value) (wx : World) (bb : Nat) (x1 x2 x3 : Int) (ok : Bool) (o : Option Item) (l : List Item) (n : Nat) (S1 : Nat → Prop) : Prop where
  s4 : s4 = .pointer (some ⟨bb, 0, none⟩)
  s5 : s5 = .bool ok
  box : wx.heap[bb]? = some (.cells #[.int .i64 x1, .int .i64 x2, .int .i64 x3] 79 (0, 0))
  pops : Pops J (fun p => getC M.cnt p) q.ents o l n
  how : (o = some (x1, x2, x3) ∧ ok = true) ∨ (o = none ∧ ok = false)
  tr : Tr3 wx S1 Kx Kq T N J M (popQ q o l n)
  stp : Stp S0 S1 w1 wx
  new : w1.heap.size ≤ bb
  apart : ¬ S1 bb
def PopRel (w1 : World) (S0 : Nat → Prop) (Kx Kq T N : Nat) (J : List Joint) (M : Mdl) (q : Qm) (s4 s5 : Value) (wx : World) : Prop := ∃ bb x1 x2 x3 ok o l n S1, PopF w1 S0 Kx Kq T N J M q s4 s5 wx bb x1 x2 x3 ok o l n S1
/-- What Pop tells, written out. -/
def T3PopV (w : World) (S : Nat → Prop) (Kx Kq T N : Nat) (J : List Joint) (M : Mdl) (q : Qm) (e : Ending) (w' : World) : Prop :=
  ∃ p1 p2 pc ok, e = .returned (.tuple #[.agg #[.int .i64 p1, .int .i64 p2, .int .i64 pc], .bool ok]) ∧ ∃ o l n, Pops J (fun p => getC M.cnt p) q.ents o l n ∧ ((o = some (p1, p2, pc) ∧ ok = true) ∨ (o = none ∧ ok = false)) ∧ T3Step w S Kx Kq T N J M (popQ q o l n) w'
set_option maxRecDepth 100000 in
theorem t3_popV {Kx Kq T N : Nat} {J : List Joint} {M : Mdl} {q : Qm} {w1 W : World} (h : Tr3 w1 S Kx Kq T N J M q) (hpu : q.pu ≤ 80000) (hg : Grown w1 W) :
    Calls Tryz.prog 33 #[.pointer (some ⟨Kq, 0, none⟩), .func (.func 34) #[.pointer (some ⟨Kx, 0, none⟩)] #[]] W (T3PopV w1 S Kx Kq T N J M q) := by
  refine (t3_pop (h.below hg.below) hpu).mono ?_
  rintro e w' ⟨o, l, n, hp, rfl, S', a1, a2⟩
  have hs : T3Step w1 S Kx Kq T N J M (popQ q o l n) w' := ⟨S', a1, (Stp.of_below hg.below).trans a2⟩
  cases o with
  | none => exact ⟨0, 0, 0, false, rfl, none, l, n, hp, .inr ⟨rfl, rfl⟩, hs⟩
  | some x => exact ⟨x.1, x.2.1, x.2.2, true, rfl, some x, l, n, hp, .inl ⟨rfl, rfl⟩, hs⟩
/-- .. with the item's box made ahead of it. -/
def T3PopB (w : World) (S : Nat → Prop) (Kx Kq T N : Nat) (J : List Joint) (M : Mdl) (q : Qm) (B : Nat) (e : Ending) (w' : World) : Prop :=
  ∃ p1 p2 pc ok, e = .returned (.tuple #[.agg #[.int .i64 p1, .int .i64 p2, .int .i64 pc], .bool ok]) ∧ w'.heap[B]? = some (.cells #[.int .i64 0, .int .i64 0, .int .i64 0] 79 (0, 0)) ∧ ∃ o l n, Pops J (fun p => getC M.cnt p) q.ents o l n ∧ ((o = some (p1, p2, pc) ∧ ok = true) ∨ (o = none ∧ ok = false)) ∧ ∃ S', Tr3 w' S' Kx Kq T N J M (popQ q o l n) ∧ Stp S S' w w' ∧ ¬ S' B
set_option maxRecDepth 100000 in
theorem t3_popB {Kx Kq T N : Nat} {J : List Joint} {M : Mdl} {q : Qm} {w1 W : World} {B : Nat} (h : Tr3 w1 S Kx Kq T N J M q) (hpu : q.pu ≤ 80000) (hg : Grown w1 W) (hB : w1.heap.size = B) (hbx : W.heap[B]? = some (.cells #[.int .i64 0, .int .i64 0, .int .i64 0] 79 (0, 0))) :
    Calls Tryz.prog 33 #[.pointer (some ⟨Kq, 0, none⟩), .func (.func 34) #[.pointer (some ⟨Kx, 0, none⟩)] #[]] W (T3PopB w1 S Kx Kq T N J M q B) := by
  refine (t3_popV (h.below hg.below) hpu (Grown.refl W)).mono ?_
  rintro e w' ⟨p1, p2, pc, ok, e1, o, l, n, h1, h2, S', h3, h4⟩
  have hBS : ¬ S B := fun e => by have := h.lt B e; omega
  have hBW := (Array.getElem?_eq_some_iff.1 hbx).1
  exact ⟨p1, p2, pc, ok, e1, (h4.kept.block B hBW hBS).trans hbx, o, l, n, h1, h2, S', h3, (Stp.of_below hg.below).trans h4, fun e => hBS (h4.out B e hBW)⟩
set_option maxRecDepth 100000 in
theorem popRel_a {w1 w4 : World} {S0 : Nat → Prop} {Kx Kq T N : Nat} {J : List Joint} {M : Mdl} {q : Qm} {p1 p2 pc : Int} {ok : Bool} (h : ∃ o l n, Pops J (fun p => getC M.cnt p) q.ents o l n ∧ ((o = some (p1, p2, pc) ∧ ok = true) ∨ (o = none ∧ ok = false)) ∧ T3Step w1 S0 Kx Kq T N J M (popQ q o l n) w4) :
    PopRel w1 S0 Kx Kq T N J M q (.pointer (some ⟨w4.heap.size, 0, none⟩)) (.bool ok) (w4.alloc (.cells #[.int .i64 p1, .int .i64 p2, .int .i64 pc] 79)) := by
  obtain ⟨o, l, n, h1, h2, S', h3, h4⟩ := h
  have hb : Below w4.heap.size w4 (w4.alloc (.cells #[.int .i64 p1, .int .i64 p2, .int .i64 pc] 79)) := (Below.refl _ _).alloc (Nat.le_refl _) _
  exact ⟨w4.heap.size, p1, p2, pc, ok, o, l, n, S', rfl, rfl, heap_alloc_new _ _, h1, h2, h3.below hb, h4.trans (Stp.of_below hb), h4.kept.size, fun e => by have := h3.lt _ e; omega⟩
set_option maxRecDepth 100000 in
theorem popRel_b {w1 w4 : World} {S0 : Nat → Prop} {Kx Kq T N : Nat} {J : List Joint} {M : Mdl} {q : Qm} {p1 p2 pc : Int} {ok : Bool} {B : Nat} (hB : w1.heap.size = B) (hx : w4.heap[B]? = some (.cells #[.int .i64 0, .int .i64 0, .int .i64 0] 79 (0, 0))) (h : ∃ o l n, Pops J (fun p => getC M.cnt p) q.ents o l n ∧ ((o = some (p1, p2, pc) ∧ ok = true) ∨ (o = none ∧ ok = false)) ∧ ∃ S', Tr3 w4 S' Kx Kq T N J M (popQ q o l n) ∧ Stp S0 S' w1 w4 ∧ ¬ S' B) :
    PopRel w1 S0 Kx Kq T N J M q (.pointer (some ⟨B, 0, none⟩)) (.bool ok) (((w4.setCell ⟨B, 0, none⟩ (.int .i64 p1)).setCell ⟨B, 1, none⟩ (.int .i64 p2)).setCell ⟨B, 2, none⟩ (.int .i64 pc)) := by
  obtain ⟨o, l, n, h1, h2, S', h3, h4, h5⟩ := h
  have g0 := heap_setCell_at hx (i := 0) (.int .i64 p1)
  have g1 := heap_setCell_at g0 (i := 1) (.int .i64 p2)
  have g2 := heap_setCell_at g1 (i := 2) (.int .i64 pc)
  have hk : Kept (fun k => k = B) w4 (((w4.setCell ⟨B, 0, none⟩ (.int .i64 p1)).setCell ⟨B, 1, none⟩ (.int .i64 p2)).setCell ⟨B, 2, none⟩ (.int .i64 pc)) := (((Kept.refl (fun k => k = B) w4).setCell ⟨B, 0, none⟩ _ fun _ => rfl).setCell ⟨B, 1, none⟩ _ fun _ => rfl).setCell ⟨B, 2, none⟩ _ fun _ => rfl
  refine ⟨B, p1, p2, pc, ok, o, l, n, S', rfl, rfl, g2, h1, h2, h3.kept (fun k a e => hk.block k a fun h => h5 (h ▸ e)) hk.size, ⟨h4.kept.trans hk fun i hi e => by have e : i = B := e; omega, h4.out⟩, Nat.le_of_eq hB, h5⟩
set_option maxRecDepth 100000 in
/-- The result's cells. -/
theorem res_two {W : World} {Nr : Nat} {u v s1 s2 : ByteArray} (h : W.heap[Nr]? = some (.cells #[.string u, .string v] 42 (0, 0))) :
    ((W.setCell ⟨Nr, 0, none⟩ (.string s1)).setCell ⟨Nr, 1, none⟩ (.string s2)).cell? ⟨Nr, 0, none⟩ = some (.string s1) ∧ ((W.setCell ⟨Nr, 0, none⟩ (.string s1)).setCell ⟨Nr, 1, none⟩ (.string s2)).cell? ⟨Nr, 1, none⟩ = some (.string s2) := by
  have g0 := heap_setCell_at h (i := 0) (.string s1)
  have g1 := heap_setCell_at g0 (i := 1) (.string s2)
  exact ⟨by rw [cell_of_row _ Nr _ _ _ (0, 0) g1]; rfl, by rw [cell_of_row _ Nr _ _ _ (0, 0) g1]; rfl⟩
set_option maxRecDepth 100000 in
theorem res_kept (W : World) (Nr : Nat) (s1 s2 : ByteArray) : Kept (fun k => k = Nr) W ((W.setCell ⟨Nr, 0, none⟩ (.string s1)).setCell ⟨Nr, 1, none⟩ (.string s2)) := ((Kept.refl (fun k => k = Nr) W).setCell ⟨Nr, 0, none⟩ _ fun _ => rfl).setCell ⟨Nr, 1, none⟩ _ fun _ => rfl
/-- The cells that a step's beginning reads. -/
def StepC (K Kx Kq : Nat) (W : World) : Prop := W.cell? ⟨K, 5, none⟩ = some (.pointer (some ⟨Kx, 0, none⟩)) ∧ W.cell? ⟨K, 6, none⟩ = some (.pointer (some ⟨Kq, 0, none⟩))
set_option maxRecDepth 100000 in
set_option maxHeartbeats 8000000 in
theorem tlstep_any (h : LrnO L b d w S K ms) (hB : bytesOf L ≤ 300) (hL : L.length ≤ 60) (hb : 0 ≤ b ∧ b ≤ 1048576) (hd : 1 ≤ d) : Calls Tryz.prog 14 #[.pointer (some ⟨K, 0, none⟩)] w (StRet (LrnO L b d) L b d S K ms w) := by
  obtain ⟨Kx, Kq, T, N, J, M, q, S0, h1, h2, h3, h4, h5, h6, h7⟩ := h
  have hsm := h3.small hB
  obtain ⟨R, hR⟩ : ∃ R, ms.length = R := ⟨_, rfl⟩
  have HR := Lib.hid hR
  have hRf : R ≤ 300 := by rw [← hR]; exact hsm.few
  obtain ⟨Nr, hNr⟩ : ∃ n, w.heap.size = n := ⟨_, rfl⟩
  have HNR := Lib.hid hNr
  obtain ⟨wa, hwa⟩ : ∃ wa, w.alloc (.cells #[.string ⟨#[]⟩, .string ⟨#[]⟩] 42) = wa := ⟨_, rfl⟩
  have hga : Grown w wa := by rw [← hwa]; exact (Grown.refl w).alloc _
  have hbr : wa.heap[Nr]? = some (.cells #[.string ⟨#[]⟩, .string ⟨#[]⟩] 42 (0, 0)) := by rw [← hwa, ← hNr]; exact heap_alloc_new w _
  have hKlt := (Array.getElem?_eq_some_iff.1 h1).1
  have hKa := (hga.below.block K hKlt).trans h1
  have h2a := h2.below hga.below
  have HW := Lib.hid (And.intro h1 (And.intro h2 (And.intro h3 (And.intro h4 (And.intro h5 (And.intro h6 h7))))))
  have HGA := Lib.hid hga; have HBR := Lib.hid hbr; have HKA := Lib.hid hKa; have HTA := Lib.hid h2a
  have HSM := Lib.hid hsm
  have HBD := Lib.hid (And.intro hB (And.intro hL (And.intro hb hd)))
  have hCa := lrnC hKa
  rw [hR] at hCa
  have c0 := hCa.bu
  have c3 := hCa.ro
  have HKLT := Lib.hid hKlt
  clear h1 h2 h3 h4 h5 h6 h7 hsm hga hbr hKa h2a hKlt hCa
  by_cases hcb : b ≤ (R : Int)
  · have hcd : decide (b ≤ (R : Int)) = true := decide_eq_true hcb
    have HE : Hid ((ms.length : Int) = max b 0) := Lib.hid (by have := HW.out.2.2.2.1; have := HR.out; omega)
    have y0 : wa.cell? ⟨Nr, 0, none⟩ = some (.string ⟨#[]⟩) := by rw [cell_of_row wa Nr _ _ _ (0, 0) HBR.out]; rfl
    have y1 : wa.cell? ⟨Nr, 1, none⟩ = some (.string ⟨#[]⟩) := by rw [cell_of_row wa Nr _ _ _ (0, 0) HBR.out]; rfl
    have y2 : wa.frozen? ⟨Nr, 0, none⟩ = false := Lib.frozen_of_heap HBR.out _
    have y3 : wa.frozen? ⟨Nr, 1, none⟩ = false := Lib.frozen_of_heap HBR.out _
    go_enter Tryz.func14, Tryz.ntmps14
    go_wp2_with fail
    go_quiet (fail)
    go_wp2
    obtain ⟨x0, x1⟩ := res_two (W := wa.drewN nq) (s1 := ⟨#[]⟩) (s2 := ⟨#[]⟩) HBR.out
    refine bodyPost_ret (v := .tuple #[.agg #[.string ⟨#[]⟩, .string ⟨#[]⟩], .bool false]) (by rw [results_cell_tmp rfl]; simp [go_sem, x0, x1]) rfl ?_
    have hkp := res_kept (wa.drewN nq) Nr ⟨#[]⟩ ⟨#[]⟩
    have hbl : Below w.heap.size w ((((wa.drewN nq).setCell ⟨Nr, 0, none⟩ (.string ⟨#[]⟩)).setCell ⟨Nr, 1, none⟩ (.string ⟨#[]⟩))) := Below.kept (below_drewN' HGA.out.below nq) hkp (fun i e => by have e : i = Nr := e; have := HNR.out; omega) HGA.out.below.size
    have hO : LrnO L b d w S K ms := ⟨Kx, Kq, T, N, J, M, q, S0, HW.out⟩
    exact ⟨S, ⟨Kept.of_below hbl (Nat.le_refl _), fun _ h _ => h⟩, .inr ⟨.inl HE.out, rfl, hO.kept (fun k a _ => hbl.block k a) hbl.size⟩⟩
  · have hcd : decide (b ≤ (R : Int)) = false := decide_eq_false hcb
    go_enter Tryz.func14, Tryz.ntmps14
    go_wp2_with fail
    go_quiet (fail)
    obtain ⟨w1, hw1⟩ : ∃ w1, wa.drewN nq = w1 := ⟨_, rfl⟩
    have hg1 : Grown wa w1 := by rw [← hw1]; exact (Grown.refl wa).drewN _
    rw [hw1]
    have HG1 := Lib.hid hg1
    have hK1 := (hg1.below.block K (Array.getElem?_eq_some_iff.1 HKA.out).1).trans HKA.out
    have hK1lt := (Array.getElem?_eq_some_iff.1 hK1).1
    have HK1 := Lib.hid hK1
    have HT1 := Lib.hid (HTA.out.below hg1.below)
    have HCG : Hid (∀ W, Grown w1 W → StepC K Kx Kq W) := Lib.hid fun W hg => by have h := lrnC ((hg.below.block K hK1lt).trans hK1); exact ⟨h.ix, h.qu⟩
    have HCK : Hid (∀ W, Kept S0 w1 W → StepC K Kx Kq W) := Lib.hid fun W hg => by have h := lrnC ((hg.block K hK1lt HW.out.2.2.2.2.1).trans hK1); exact ⟨h.ix, h.qu⟩
    have hpu : q.pu ≤ 80000 := by have := HW.out.2.2.1.pu HBD.out.1; omega
    have HPP : Hid (∀ W, Grown w1 W → Calls Tryz.prog 33 #[.pointer (some ⟨Kq, 0, none⟩), .func (.func 34) #[.pointer (some ⟨Kx, 0, none⟩)] #[]] W (T3PopV w1 S0 Kx Kq T N J M q)) := Lib.hid fun W hg => t3_popV HT1.out hpu hg
    obtain ⟨B, hBs⟩ : ∃ B, w1.heap.size = B := ⟨_, rfl⟩
    have HPA : Hid (∀ W, Grown w1 W → W.heap[B]? = some (.cells #[.int .i64 0, .int .i64 0, .int .i64 0] 79 (0, 0)) → Calls Tryz.prog 33 #[.pointer (some ⟨Kq, 0, none⟩), .func (.func 34) #[.pointer (some ⟨Kx, 0, none⟩)] #[]] W (T3PopB w1 S0 Kx Kq T N J M q B)) := Lib.hid fun W hg hbx => t3_popB HT1.out hpu hg hBs hbx
    have HNB := Lib.hid hBs
    have hg0 := Grown.refl w1
    obtain ⟨z5, z6⟩ := HCG.out w1 hg0
    clear c0 c3 hg1 hK1 hK1lt hpu hw1
    go_wp2_with fail
    go_cut [4, 5] from 33 (fun s4 s5 wx => PopRel w1 S0 Kx Kq T N J M q s4 s5 wx)
    case first =>
      go_region_held3 (fun w' => w'.cell? ⟨K, 5, none⟩ = some (.pointer (some ⟨Kx, 0, none⟩)) ∧ w'.cell? ⟨K, 6, none⟩ = some (.pointer (some ⟨Kq, 0, none⟩)))
        (first | with_reducible exact ⟨z5, z6⟩ | exact HCG.out _ (by first | assumption | exact Grown.drew (by assumption) | exact Grown.alloc (by assumption) _ | exact Grown.drew (Grown.alloc (by assumption) _)) | exact HCK.out _ (by first | assumption | exact Kept.drew (by assumption) | exact Kept.alloc (by assumption) _ | exact Kept.drew (Kept.alloc (by assumption) _)))
        (first
          | (go_at_call 33
             refine (HPA.out _ (by first | exact Grown.alloc (by assumption) _ | exact Grown.drew (Grown.alloc (by assumption) _)) (by rw [← HNB.out]; first | exact heap_alloc_new _ _ | exact heap_alloc_new w1 _)).mono ?_
             rintro e w4 ⟨p1, p2, pc, ok, rfl, hbx, hpop⟩
             have HPOP := Lib.hid hpop
             have hk4 : Kept S0 w1 w4 := by obtain ⟨_, _, _, _, _, _, _, h, _⟩ := hpop; exact h.kept
             have e0 : w4.cell? ⟨B, 0, none⟩ = some (.int .i64 0) := by rw [cell_of_row w4 B _ _ _ (0, 0) hbx]; rfl
             have e1 : w4.cell? ⟨B, 1, none⟩ = some (.int .i64 0) := by rw [cell_of_row w4 B _ _ _ (0, 0) hbx]; rfl
             have e2 : w4.cell? ⟨B, 2, none⟩ = some (.int .i64 0) := by rw [cell_of_row w4 B _ _ _ (0, 0) hbx]; rfl
             have f0 : w4.frozen? ⟨B, 0, none⟩ = false := Lib.frozen_of_heap hbx _
             have f1 : w4.frozen? ⟨B, 1, none⟩ = false := Lib.frozen_of_heap hbx _
             have f2 : w4.frozen? ⟨B, 2, none⟩ = false := Lib.frozen_of_heap hbx _
             have hk5 := Kept.setCell (Kept.setCell (Kept.setCell hk4 ⟨B, 0, none⟩ (.int .i64 p1) fun h => absurd h (by show ¬ B < _; have := HNB.out; omega)) ⟨B, 1, none⟩ (.int .i64 p2) fun h => absurd h (by show ¬ B < _; have := HNB.out; omega)) ⟨B, 2, none⟩ (.int .i64 pc) fun h => absurd h (by show ¬ B < _; have := HNB.out; omega)
             have HX4 := Lib.hid hbx
             clear hpop hbx)
          | (go_at_call 33
             refine (HPP.out _ (by first | assumption | exact Grown.drew (by assumption))).mono ?_
             rintro e w4 ⟨p1, p2, pc, ok, rfl, hpop⟩
             have HPOP := Lib.hid hpop
             have hk4 : Kept S0 w1 w4 := by obtain ⟨_, _, _, _, _, _, _, h⟩ := hpop; exact h.kept
             clear hpop))
      all_goals (go_wp2_with fail; go_meet; first | exact popRel_a HPOP.out | exact popRel_b HNB.out HX4.out HPOP.out)
    case rest =>
      obtain ⟨bb, x1, x2, x3, ok, o, l, n, S1, hp⟩ := hcut
      obtain rfl := hp.s4
      obtain rfl := hp.s5
      have hNS0 : ¬ S0 Nr := fun e => by have := HW.out.2.1.lt Nr e; have := HNR.out; omega
      have hK1 : K < w1.heap.size := (Array.getElem?_eq_some_iff.1 HK1.out).1
      have hr1 := (HG1.out.below.block Nr (Array.getElem?_eq_some_iff.1 HBR.out).1).trans HBR.out
      have hN1 : Nr < w1.heap.size := (Array.getElem?_eq_some_iff.1 hr1).1
      have hKc := (hp.stp.kept.block K hK1 HW.out.2.2.2.2.1).trans HK1.out
      have hrc := (hp.stp.kept.block Nr hN1 hNS0).trans hr1
      have hKS1 : ¬ S1 K := fun e => HW.out.2.2.2.2.1 (hp.stp.out K e hK1)
      have hNS1 : ¬ S1 Nr := fun e => hNS0 (hp.stp.out Nr e hN1)
      have hbK : ¬ bb = K := by have := hp.new; omega
      have hbN : ¬ bb = Nr := by have := hp.new; omega
      have hNK : ¬ Nr = K := by have := HKLT.out; have := HNR.out; omega
      have hkS : Kept S w wc := ((Kept.of_below (S := S) (HGA.out.trans HG1.out).below (Nat.le_refl _))).trans hp.stp.kept fun i _ e => HW.out.2.2.2.2.2.1 i (.inr e)
      have hout : ∀ k, k = K ∨ S1 k → k < w.heap.size → S k := fun k hk hlt => by
        rcases hk with rfl | hk
        · exact HW.out.2.2.2.2.2.1 _ (.inl rfl)
        · exact HW.out.2.2.2.2.2.1 k (.inr (hp.stp.out k hk (Nat.lt_of_lt_of_le hlt (HGA.out.trans HG1.out).below.size)))
      have hwr : w.heap.size ≤ Nr := Nat.le_of_eq HNR.out
      have r0 : wc.cell? ⟨Nr, 0, none⟩ = some (.string ⟨#[]⟩) := by rw [cell_of_row wc Nr _ _ _ (0, 0) hrc]; rfl
      have r1 : wc.cell? ⟨Nr, 1, none⟩ = some (.string ⟨#[]⟩) := by rw [cell_of_row wc Nr _ _ _ (0, 0) hrc]; rfl
      have f0 : wc.frozen? ⟨Nr, 0, none⟩ = false := Lib.frozen_of_heap hrc _
      have f1 : wc.frozen? ⟨Nr, 1, none⟩ = false := Lib.frozen_of_heap hrc _
      have HP := Lib.hid hp; have HKC := Lib.hid hKc; have HRC := Lib.hid hrc; have HKS := Lib.hid hkS; have HOUT := Lib.hid hout
      have HNE := Lib.hid (And.intro hKS1 (And.intro hNS1 (And.intro hbK (And.intro hbN (And.intro hNK hwr)))))
      have how := hp.how
      rcases how with ⟨ho, rfl⟩ | ⟨ho, rfl⟩
      · subst ho
        obtain ⟨b1, b2, b3, b4, b5⟩ := HW.out.2.2.1.best HBD.out.2.2.2 HBD.out.1 hp.pops
        have hjl := HSM.out.jl
        have cL := tllearn_any (K := K) (ps := (bytesOf L : Int)) hp.tr HW.out.2.2.1 hp.pops hKc hKS1 HBD.out.1 HBD.out.2.1 HBD.out.2.2.2
        have HBE : Hid (BestRel (runT (startW L) ms) (countsOf L) (mgOf J (x1, x2)) x3 ∧ d ≤ x3 ∧ (ms.length : Int) < b) := Lib.hid ⟨b1, b4, by rw [HR.out]; omega⟩
        have HFP : Hid (FitsPr (x1, x2) ∧ ThereP J (x1, x2)) := Lib.hid ⟨b3, b2⟩
        have p0 : wc.cell? ⟨bb, 0, none⟩ = some (.int .i64 x1) := by rw [cell_of_row wc bb _ _ _ (0, 0) hp.box]; rfl
        have p1 : wc.cell? ⟨bb, 1, none⟩ = some (.int .i64 x2) := by rw [cell_of_row wc bb _ _ _ (0, 0) hp.box]; rfl
        have HBX := Lib.hid hp.box
        have HJL : Hid ((moreJ J (x1, x2)).length ≤ 1000000) := Lib.hid (by unfold moreJ; rw [List.length_append, List.length_singleton]; have := HSM.out.few; omega)
        clear hp hNS0 hK1 hr1 hN1 hKc hrc hKS1 hNS1 hbK hbN hNK hkS hout hwr b1 b2 b3 b4 b5 hjl r0 r1 f0 f1
        go_wp2_with fail
        refine cL.mono ?_
        rintro e w5 ⟨rfl, S5, N5, M5, q5, hK5, ht5, ha5, hk5, ho5⟩
        have hb5 := (hk5.block bb (Array.getElem?_eq_some_iff.1 HBX.out).1 (by rintro (e | e); exact HNE.out.2.2.1 e; exact HP.out.apart e)).trans HBX.out
        have hr5 := (hk5.block Nr (Array.getElem?_eq_some_iff.1 HRC.out).1 (by rintro (e | e); exact HNE.out.2.2.2.2.1 e; exact HNE.out.2.1 e)).trans HRC.out
        have hb5l := (Array.getElem?_eq_some_iff.1 hb5).1
        have hr5l := (Array.getElem?_eq_some_iff.1 hr5).1
        have hK5l := (Array.getElem?_eq_some_iff.1 hK5).1
        have HF5 := Lib.hid (And.intro hK5 (And.intro ht5 (And.intro ha5 (And.intro hk5 ho5))))
        have HR5 := Lib.hid hr5
        have HRL := Lib.hid hr5l
        have HBC : Hid (∀ W, Grown w5 W → W.cell? ⟨bb, 0, none⟩ = some (.int .i64 x1) ∧ W.cell? ⟨bb, 1, none⟩ = some (.int .i64 x2)) := Lib.hid fun W hg => by
          have h := (hg.below.block bb hb5l).trans hb5
          exact ⟨by rw [cell_of_row W bb _ _ _ (0, 0) h]; rfl, by rw [cell_of_row W bb _ _ _ (0, 0) h]; rfl⟩
        have HBS : Hid (∀ W u v, Grown w5 W → ((W.setCell ⟨Nr, 0, none⟩ (.string u)).setCell ⟨Nr, 1, none⟩ (.string v)).cell? ⟨bb, 0, none⟩ = some (.int .i64 x1) ∧ ((W.setCell ⟨Nr, 0, none⟩ (.string u)).setCell ⟨Nr, 1, none⟩ (.string v)).cell? ⟨bb, 1, none⟩ = some (.int .i64 x2)) := Lib.hid fun W u v hg => by
          have h := ((res_kept W Nr u v).block bb (Nat.lt_of_lt_of_le hb5l hg.below.size) HNE.out.2.2.2.1).trans ((hg.below.block bb hb5l).trans hb5)
          exact ⟨by rw [cell_of_row _ bb _ _ _ (0, 0) h]; rfl, by rw [cell_of_row _ bb _ _ _ (0, 0) h]; rfl⟩
        have HRS : Hid (∀ W, Grown w5 W → W.cell? ⟨Nr, 0, none⟩ = some (.string ⟨#[]⟩) ∧ W.cell? ⟨Nr, 1, none⟩ = some (.string ⟨#[]⟩) ∧ W.frozen? ⟨Nr, 0, none⟩ = false ∧ W.frozen? ⟨Nr, 1, none⟩ = false) := Lib.hid fun W hg => by
          have h := (hg.below.block Nr hr5l).trans hr5
          exact ⟨by rw [cell_of_row W Nr _ _ _ (0, 0) h]; rfl, by rw [cell_of_row W Nr _ _ _ (0, 0) h]; rfl, Lib.frozen_of_heap h _, Lib.frozen_of_heap h _⟩
        have HTX : Hid (∀ id W, (id = x1 ∨ id = x2) → Grown w5 W → Calls Tryz.prog 36 #[.pointer (some ⟨K, 0, none⟩), .int .i64 id] W fun e w' => e = .returned (.string (txtOf J id)) ∧ Grown w5 w') := Lib.hid fun id W hid hg => by
          obtain ⟨i0, i1, ht⟩ : -9223372036854775808 ≤ id ∧ id ≤ 9223372036854775807 ∧ thereOf J id = true := by
            rcases hid with rfl | rfl
            · exact ⟨HFP.out.1.1.1, HFP.out.1.1.2, HFP.out.2.1⟩
            · exact ⟨HFP.out.1.2.1, HFP.out.1.2.2, HFP.out.2.2⟩
          refine (tltext_any (K := K) (ht5.below hg.below) ((hg.below.block K hK5l).trans hK5) HJL.out id i0 i1).mono ?_
          rintro e w' ⟨rfl, h⟩
          exact ⟨by rw [show txtOf (moreJ J (x1, x2)) id = txtOf J id by unfold moreJ; exact txt_more ht], hg.trans h⟩
        have hg5 := Grown.refl w5
        obtain ⟨z0, z1⟩ := HBC.out w5 hg5
        clear cL hb5 hr5 hb5l hr5l hK5l hK5 ht5 ha5 hk5 ho5 p0 p1
        go_wp2_with fail
        go_region_held3 (fun w' => w'.cell? ⟨bb, 0, none⟩ = some (.int .i64 x1) ∧ w'.cell? ⟨bb, 1, none⟩ = some (.int .i64 x2))
          (first | with_reducible exact ⟨z0, z1⟩ | with_reducible exact HBC.out _ (by assumption) | with_reducible exact HBC.out _ (Grown.drew (by assumption)) | with_reducible exact HBS.out _ _ _ (by assumption) | with_reducible exact HBS.out _ _ _ (Grown.drew (by assumption)))
          (first
            | (go_at_call 36
               refine (HTX.out _ _ (by first | exact .inl rfl | exact .inr rfl) (by first | assumption | exact Grown.drew (by assumption))).mono ?_
               rintro e w6 ⟨rfl, hg6⟩
               obtain ⟨r0, r1, f0, f1⟩ := HRS.out w6 hg6))
        go_wp2
        have hr6 := (hg6.below.block Nr HRL.out).trans HR5.out
        obtain ⟨y0, y1⟩ := res_two (W := w6) (s1 := txtOf J x1) (s2 := txtOf J x2) hr6
        refine bodyPost_ret (v := .tuple #[.agg #[.string (txtOf J x1), .string (txtOf J x2)], .bool true]) (by rw [results_cell_tmp rfl]; simp [go_sem, y0, y1]) rfl ?_
        have hkp := res_kept w6 Nr (txtOf J x1) (txtOf J x2)
        obtain ⟨hK5, ht5, ha5, hk5, ho5⟩ := HF5.out
        have hKc : K < wc.heap.size := (Array.getElem?_eq_some_iff.1 HKC.out).1
        have hNc : Nr < wc.heap.size := (Array.getElem?_eq_some_iff.1 HRC.out).1
        have hO5 : LrnO L b d w5 (fun k => k = K ∨ S5 k) K (ms ++ [mgOf J (x1, x2)]) := ⟨Kx, Kq, T, N5, moreJ J (x1, x2), M5, q5, S5, by rw [List.length_append, List.length_singleton]; exact hK5, ht5, ha5, by rw [List.length_append, List.length_singleton]; have := HBE.out.2.2; omega, fun e => HNE.out.1 (ho5 K e hKc), fun _ h => h, fun k h => by
          rcases h with rfl | h
          · exact (Array.getElem?_eq_some_iff.1 hK5).1
          · exact ht5.lt k h⟩
        have hO6 := hO5.kept (fun k a _ => hg6.below.block k a) hg6.below.size
        refine ⟨fun k => k = K ∨ S5 k, ⟨((HKS.out.trans hk5 fun i hi e => HOUT.out i e hi).trans (Kept.of_below (S := S) hg6.below (Nat.le_refl _)) fun _ _ h => h).trans hkp fun i hi e => ?_, fun k hk hlt => ?_⟩, .inl ⟨mgOf J (x1, x2), x3, HBE.out.1, HBE.out.2.1, HBE.out.2.2, rfl, hO6.kept (fun k a hk => hkp.block k a fun e => ?_) hkp.size⟩⟩
        · have e : i = Nr := e
          have := HNE.out.2.2.2.2.2
          omega
        · rcases hk with rfl | hk
          · exact HOUT.out _ (.inl rfl) hlt
          · exact HOUT.out k (.inr (ho5 k hk (Nat.lt_of_lt_of_le hlt HKS.out.size))) hlt
        · have e : k = Nr := e
          subst e
          rcases hk with hk | hk
          · exact HNE.out.2.2.2.2.1 hk
          · exact HNE.out.2.1 (ho5 _ hk hNc)
      · subst ho
        have he := HW.out.2.2.1.ends HBD.out.2.2.2 hp.pops
        have hO : LrnO L b d wc (fun k => k = K ∨ S1 k) K ms := ⟨Kx, Kq, T, N, J, M, _, S1, hKc, hp.tr, he.1, HW.out.2.2.2.1, hKS1, fun _ h => h, fun k h => by
          rcases h with rfl | h
          · exact (Array.getElem?_eq_some_iff.1 hKc).1
          · exact hp.tr.lt k h⟩
        have HO := Lib.hid hO; have HE := Lib.hid he.2
        clear hp hNS0 hK1 hr1 hN1 hKc hrc hKS1 hNS1 hbK hbN hNK hkS hout hwr he hO
        go_wp2
        obtain ⟨x0, x1⟩ := res_two (W := wc) (s1 := ⟨#[]⟩) (s2 := ⟨#[]⟩) HRC.out
        refine bodyPost_ret (v := .tuple #[.agg #[.string ⟨#[]⟩, .string ⟨#[]⟩], .bool false]) (by rw [results_cell_tmp rfl]; simp [go_sem, x0, x1]) rfl ?_
        have hkp := res_kept wc Nr ⟨#[]⟩ ⟨#[]⟩
        refine ⟨fun k => k = K ∨ S1 k, ⟨HKS.out.trans hkp fun i hi e => ?_, HOUT.out⟩, .inr ⟨.inr HE.out, rfl, HO.out.kept (fun k a hk => hkp.block k a fun e => ?_) hkp.size⟩⟩
        · have e : i = Nr := e
          have := HNE.out.2.2.2.2.2
          omega
        · have e : k = Nr := e
          subst e
          rcases hk with hk | hk
          · exact HNE.out.2.2.2.2.1 hk
          · exact HNE.out.2.1 hk
set_option maxRecDepth 100000 in
/-- Of none. -/
theorem tlstep_nil (w : World) : Calls Tryz.prog 14 #[.pointer none] w fun e w' => e = .returned (.tuple #[.agg #[.string ⟨#[]⟩, .string ⟨#[]⟩], .bool false]) ∧ Below w.heap.size w w' := by
  obtain ⟨Nr, hNr⟩ : ∃ n, w.heap.size = n := ⟨_, rfl⟩
  have HNR := Lib.hid hNr
  obtain ⟨wa, hwa⟩ : ∃ wa, w.alloc (.cells #[.string ⟨#[]⟩, .string ⟨#[]⟩] 42) = wa := ⟨_, rfl⟩
  have HGA : Hid (Grown w wa) := Lib.hid (by rw [← hwa]; exact (Grown.refl w).alloc _)
  have hbr : wa.heap[Nr]? = some (.cells #[.string ⟨#[]⟩, .string ⟨#[]⟩] 42 (0, 0)) := by rw [← hwa, ← hNr]; exact heap_alloc_new w _
  have HBR := Lib.hid hbr
  have y0 : wa.cell? ⟨Nr, 0, none⟩ = some (.string ⟨#[]⟩) := by rw [cell_of_row wa Nr _ _ _ (0, 0) hbr]; rfl
  have y1 : wa.cell? ⟨Nr, 1, none⟩ = some (.string ⟨#[]⟩) := by rw [cell_of_row wa Nr _ _ _ (0, 0) hbr]; rfl
  have y2 : wa.frozen? ⟨Nr, 0, none⟩ = false := Lib.frozen_of_heap hbr _
  have y3 : wa.frozen? ⟨Nr, 1, none⟩ = false := Lib.frozen_of_heap hbr _
  clear hbr
  go_enter Tryz.func14, Tryz.ntmps14
  go_wp2_with fail
  go_quiet (fail)
  go_wp2
  obtain ⟨x0, x1⟩ := res_two (W := wa.drewN nq) (s1 := ⟨#[]⟩) (s2 := ⟨#[]⟩) HBR.out
  refine bodyPost_ret (v := .tuple #[.agg #[.string ⟨#[]⟩, .string ⟨#[]⟩], .bool false]) (by rw [results_cell_tmp rfl]; simp [go_sem, x0, x1]) rfl ?_
  have hkp := res_kept (wa.drewN nq) Nr ⟨#[]⟩ ⟨#[]⟩
  exact ⟨rfl, Below.kept (below_drewN' HGA.out.below nq) hkp (fun i e => by have e : i = Nr := e; have := HNR.out; omega) HGA.out.below.size⟩
end Go.Proofs.YtnmacalbbmeedaaGreat
