/- slices.MinFunc at items; pair.Best. -/
import Derived.Test.YthjblamfkfclhaaPSort
namespace Go.Proofs.Ythjblamfkfclhaa
open Go.RowKit Go.Maps Go.Shelf
open Go.Sort (grow SWO)

/-- Of the first i places b is the best, and the first that is. -/
def BestUpto (J : List Joint) (L : List Item) (i b : Nat) : Prop := b < i ∧ ∀ j, j < i → j ≠ b → lex (ltI J L) b j = true
theorem bestUpto_one (J : List Joint) (L : List Item) : BestUpto J L 1 0 := ⟨by omega, fun j h1 h2 => by omega⟩
theorem bestUpto_new {J : List Joint} {L : List Item} {i b : Nat} (h : BestUpto J L i b) (hl : betterOf J (itOf L i) (itOf L b) = true) : BestUpto J L (i + 1) i := by
  have h1 : lex (ltI J L) i b = true := by rw [lex_up h.1]; exact hl
  refine ⟨by omega, fun j k1 k2 => ?_⟩
  by_cases e : j = b
  · rw [e]; exact h1
  · exact lex_trans (ltI_swo J L) _ _ _ h1 (h.2 j (by omega) e)
theorem bestUpto_old {J : List Joint} {L : List Item} {i b : Nat} (h : BestUpto J L i b) (hl : betterOf J (itOf L i) (itOf L b) = false) : BestUpto J L (i + 1) b := by
  have h1 : lex (ltI J L) i b = false := by rw [lex_up h.1]; exact hl
  refine ⟨by have := h.1; omega, fun j k1 k2 => ?_⟩
  by_cases e : j = i
  · rw [e]
    rcases lex_or h1 with k | k
    · have := h.1; omega
    · exact k
  · exact h.2 j (by omega) k2
/-- The cells of an item of a row. -/
theorem items_at {w wr : World} {L : List Item} {ad : Addr} {n cap : Nat} (h : eltsAt itemE w (.slice (some ad) n cap) L) (hb : Below w.heap.size w wr) {k : Nat} (hk : k < L.length) :
    wr.cell? (ad.add (k * 3)) = some (.int .i64 L[k].1) ∧ wr.cell? ⟨(ad.add (k * 3)).block, (ad.add (k * 3)).off + 1, none⟩ = some (.int .i64 L[k].2.1) ∧ wr.cell? ⟨(ad.add (k * 3)).block, (ad.add (k * 3)).off + 2, none⟩ = some (.int .i64 L[k].2.2) := by
  have := elts_at h hb hk
  exact ⟨this 0 _ rfl, by rw [← two_cell]; exact this 1 _ rfl, by rw [← three_cell]; exact this 2 _ rfl⟩
/-- An item lies in block N, which may be written. -/
def HItem (w : World) (N : Nat) (x : Item) : Prop := w.heap[N]? = some (.cells #[.int .i64 x.1, .int .i64 x.2.1, .int .i64 x.2.2] 33 (0, 0))
theorem HItem.cells {w : World} {N : Nat} {x : Item} (h : HItem w N x) : w.cell? ⟨N, 0, none⟩ = some (.int .i64 x.1) ∧ w.cell? ⟨N, 1, none⟩ = some (.int .i64 x.2.1) ∧ w.cell? ⟨N, 2, none⟩ = some (.int .i64 x.2.2) ∧ w.frozen? ⟨N, 0, none⟩ = false ∧ w.frozen? ⟨N, 1, none⟩ = false ∧ w.frozen? ⟨N, 2, none⟩ = false :=
  ⟨by rw [cell_of_row w N 0 _ 33 (0, 0) h]; rfl, by rw [cell_of_row w N 1 _ 33 (0, 0) h]; rfl, by rw [cell_of_row w N 2 _ 33 (0, 0) h]; rfl, Lib.frozen_of_heap h 0, Lib.frozen_of_heap h 1, Lib.frozen_of_heap h 2⟩
theorem HItem.lt {w : World} {N : Nat} {x : Item} (h : HItem w N x) : N < w.heap.size := (Array.getElem?_eq_some_iff.1 h).1
theorem HItem.kept {w w' : World} {N : Nat} {x : Item} (h : HItem w N x) (hk : w'.heap[N]? = w.heap[N]?) : HItem w' N x := hk.trans h
theorem HItem.store {w : World} {N : Nat} {x : Item} (h : HItem w N x) (p q n : Int) : HItem (((w.setCell ⟨N, 0, none⟩ (.int .i64 p)).setCell ⟨N, 1, none⟩ (.int .i64 q)).setCell ⟨N, 2, none⟩ (.int .i64 n)) N (p, q, n) := by
  have := heap_setCell_at (i := 2) (heap_setCell_at (i := 1) (heap_setCell_at (i := 0) h (.int .i64 p)) (.int .i64 q)) (.int .i64 n)
  exact this
theorem set3_other {w : World} {N k : Nat} {a b c : Value} (hk : k ≠ N) : (((w.setCell ⟨N, 0, none⟩ a).setCell ⟨N, 1, none⟩ b).setCell ⟨N, 2, none⟩ c).heap[k]? = w.heap[k]? := by
  rw [Below.heap_setCell _ _ _ _ hk, Below.heap_setCell _ _ _ _ hk, Below.heap_setCell _ _ _ _ hk]
theorem below_set3 {B : Nat} {w0 w : World} {N : Nat} {a b c : Value} (h : Below B w0 w) (hN : B ≤ N) : Below B w0 (((w.setCell ⟨N, 0, none⟩ a).setCell ⟨N, 1, none⟩ b).setCell ⟨N, 2, none⟩ c) := ((h.setCell (p := ⟨N, 0, none⟩) hN _).setCell (p := ⟨N, 1, none⟩) hN _).setCell (p := ⟨N, 2, none⟩) hN _
/-- One result that lies in memory. -/
theorem results_cell1 {fn : Func} {p : Tmp} {ty : TypeId} (h : fn.results = #[.cell p ty]) (tmps : Array Value) (P : Program) (w : World) :
    (results fn tmps).run P w = ((asAddr (tmps.getD p undef)).run P w).andThen fun a w₁ => (loadVar ty a).run P w₁ := by
  simp only [results, h]
  simp [Sem.run_bind, Result.andThen]
  done
/-- What MinFunc tells. -/
def MinRet (J : List Joint) (L : List Item) (w : World) (e : Ending) (w' : World) : Prop := ∃ i, e = .returned (itemV (itOf L i)) ∧ BestUpto J L L.length i ∧ Below w.heap.size w w'
def MinRel (J : List Joint) (L : List Item) (w : World) (s : Value) (wr : World) : Prop :=
  ∃ i b : Nat, s = .int .i64 (i : Int) ∧ i ≤ L.length ∧ BestUpto J L i b ∧ HItem wr w.heap.size (0, 0, 0) ∧ HItem wr (w.heap.size + 1) (itOf L b) ∧ Below w.heap.size w wr
set_option maxHeartbeats 4000000 in
theorem min_any (K : Nat) (v : Value) (b : Option Nat) (J : List Joint) (c : Nat) (x : Value) (L : List Item) (w : World) (h : Env w K v b J c) (hx : eltsAt itemE w x L) (h0 : 0 < L.length) (hL : L.length < 1000000) (hf : ∀ q ∈ L, FitsI q) :
    Calls Try.prog 22 #[x, .func (.func 31) #[] #[.pointer (some ⟨c, 0, none⟩)]] w fun e w' => MinRet J L w e w' := by
  have mixed : Try.prog.follows .mixedOrders = true := by kernel_rfl
  have H := Lib.hid h
  have HX := Lib.hid hx
  have HF := Lib.hid hf
  obtain ⟨a, cap, rfl, hc⟩ := hx
  obtain ⟨ad, rfl, _⟩ := hc 0 h0
  clear h hf hc
  have h0I : ¬ (L.length : Int) < 1 := by omega
  have hg0 : Below w.heap.size w (w.alloc (.cells #[.int .i64 0, .int .i64 0, .int .i64 0] 33)) := (Below.refl _ w).alloc (Nat.le_refl _) _
  obtain ⟨c0, c1, c2⟩ := items_at HX.out hg0 h0
  rw [Nat.zero_mul, add_zero_any] at c0 c1 c2
  have HL0 := Lib.hid (it_at h0)
  rw [← it_at h0] at c0 c1 c2
  generalize hq : itOf L 0 = q at c0 c1 c2
  have HQ := Lib.hid hq
  obtain ⟨q1, q2, q3⟩ := q
  simp only at c0 c1 c2
  clear hg0 hq HL0
  go_enter Try.func22, Try.ntmps22
  go_wp2
  have HM : Hid (MinRel J L w (.int .i64 1) ((w.alloc (.cells #[.int .i64 0, .int .i64 0, .int .i64 0] 33)).alloc (.cells #[.int .i64 q1, .int .i64 q2, .int .i64 q3] 33))) := Lib.hid (by
    refine ⟨1, 0, rfl, by omega, bestUpto_one J L, ?_, ?_, ((Below.refl _ w).alloc (Nat.le_refl _) _).alloc (by simp) _⟩
    · exact (Below.heap_alloc _ _ _ (by simp)).trans (heap_alloc_new w _)
    · rw [HQ.out]
      have := heap_alloc_new (w.alloc (.cells #[.int .i64 0, .int .i64 0, .int .i64 0] 33)) (.cells #[.int .i64 q1, .int .i64 q2, .int .i64 q3] 33)
      rwa [World.size_alloc] at this)
  clear c0 c1 c2
  go_loopw [6] (fun s wr => MinRel J L w s wr) (fun s _ => L.length + 1 - (intOf s).toNat)
  case atStart => exact HM.out
  case round =>
    clear HM HQ
    obtain ⟨i, t, rfl, hi, hb, hr, hm, hbel⟩ := hrel
    have HB := Lib.hid hbel
    have HBU := Lib.hid hb
    have HR := Lib.hid hr
    have HM := Lib.hid hm
    clear hbel hb hr hm
    by_cases hgo : i < L.length
    · have hgoI : (i : Int) < (L.length : Int) := by omega
      obtain ⟨c0, c1, c2⟩ := items_at HX.out HB.out hgo
      rw [← it_at hgo] at c0 c1 c2
      obtain ⟨m0, m1, m2, f0, f1, f2⟩ := HM.out.cells
      have fi := it_fits HF.out i
      have ft := it_fits HF.out t
      have hEnv : Env wr K v b J c := H.out.kept fun k hk _ => HB.out.block k hk
      have hcg := fun n os => closure_any K v b J c (itOf L i) (itOf L t) (grow (wr.drewN n) os) (hEnv.grown (Grown.of wr n os)) fi ft
      have hlv : betterOf J (itOf L i) (itOf L t) = decide (icmp J (itOf L i) (itOf L t) < 0) := rfl
      generalize hz : icmp J (itOf L i) (itOf L t) = z at hcg hlv
      have HZ : Aside (betterOf J (itOf L i) (itOf L t) = decide (z < 0)) := hlv
      generalize hp : itOf L i = p at *
      generalize hs : itOf L t = s at *
      have HP := Lib.hid hp
      have HS := Lib.hid hs
      clear hp hs hz hlv fi ft
      obtain ⟨p1, p2, p3⟩ := p
      obtain ⟨s1, s2, s3⟩ := s
      unfold itemV at hcg
      simp only at c0 c1 c2 m0 m1 m2 hcg
      have hadb : (ad.add (i * 3)).block < wr.heap.size := by
        obtain ⟨_, _, e, hc⟩ := HX.out
        cases e
        obtain ⟨ad', e, hlt, _⟩ := hc i hgo
        cases e
        rw [add_block]
        have := HB.out.size; omega
      have g0 := fun n os => cell_grown hadb c0 n os
      have g1 := fun n os => cell_grown (w := wr) (a := ⟨(ad.add (i * 3)).block, (ad.add (i * 3)).off + 1, none⟩) hadb c1 n os
      have g2 := fun n os => cell_grown (w := wr) (a := ⟨(ad.add (i * 3)).block, (ad.add (i * 3)).off + 2, none⟩) hadb c2 n os
      have k0 := fun n os => cell_grown (w := wr) (a := ⟨w.heap.size + 1, 0, none⟩) HM.out.lt m0 n os
      have k1 := fun n os => cell_grown (w := wr) (a := ⟨w.heap.size + 1, 1, none⟩) HM.out.lt m1 n os
      have k2 := fun n os => cell_grown (w := wr) (a := ⟨w.heap.size + 1, 2, none⟩) HM.out.lt m2 n os
      by_cases hcz : z < 0
      · have hc1 : decide (z < 0) = true := decide_eq_true hcz
        go_wp2_with fail
        go_quiet_grown (first | (go_at_call 31; refine Calls.grown_of (hcg _ _)))
        obtain ⟨wq, hwq⟩ : ∃ wq, wq = grow (wr.drewN nq) osq := ⟨_, rfl⟩
        have HG : Hid (Grown wr wq) := Lib.hid (by rw [hwq]; exact Grown.of _ _ _)
        have HB2 : Hid (Below w.heap.size w wq) := Lib.hid (HB.out.trans (HG.out.below.mono HB.out.size))
        have HR2 : Hid (HItem wq w.heap.size (0, 0, 0)) := Lib.hid (HR.out.kept (HG.out.below.block _ HR.out.lt))
        have HM2 : Hid (HItem wq (w.heap.size + 1) (s1, s2, s3)) := Lib.hid (HM.out.kept (HG.out.below.block _ HM.out.lt))
        have a0 := g0 nq osq
        have a1 := g1 nq osq
        have a2 := g2 nq osq
        rw [← hwq] at a0 a1 a2
        rw [← hwq]
        obtain ⟨b0, b1, b2, d0, d1, d2⟩ := HM2.out.cells
        simp only at b0 b1 b2
        clear hwq g0 g1 g2 k0 k1 k2 hcg c0 c1 c2 m0 m1 m2 f0 f1 f2 hEnv
        go_wp2
        go_roundw
        case rel =>
          refine ⟨i + 1, i, by simp, hgo, bestUpto_new HBU.out (by rw [HP.out, HS.out, HZ.out]; exact hc1), ?_, ?_, below_set3 HB2.out (by omega)⟩
          · exact HR2.out.kept (set3_other (by omega))
          · rw [HP.out]; exact HM2.out.store p1 p2 p3
        case measure => simp [intOf]; omega
      · have hc1 : decide (z < 0) = false := decide_eq_false hcz
        go_wp2_with fail
        go_quiet_grown (first | (go_at_call 31; refine Calls.grown_of (hcg _ _)))
        obtain ⟨wq, hwq⟩ : ∃ wq, wq = grow (wr.drewN nq) osq := ⟨_, rfl⟩
        have HG : Hid (Grown wr wq) := Lib.hid (by rw [hwq]; exact Grown.of _ _ _)
        have HB2 : Hid (Below w.heap.size w wq) := Lib.hid (HB.out.trans (HG.out.below.mono HB.out.size))
        have HR2 : Hid (HItem wq w.heap.size (0, 0, 0)) := Lib.hid (HR.out.kept (HG.out.below.block _ HR.out.lt))
        have HM2 : Hid (HItem wq (w.heap.size + 1) (s1, s2, s3)) := Lib.hid (HM.out.kept (HG.out.below.block _ HM.out.lt))
        rw [← hwq]
        clear hwq g0 g1 g2 k0 k1 k2 hcg c0 c1 c2 m0 m1 m2 f0 f1 f2 hEnv
        go_wp2
        go_roundw
        case rel => exact ⟨i + 1, t, by simp, hgo, bestUpto_old HBU.out (by rw [HP.out, HS.out, HZ.out]; exact hc1), HR2.out, by rw [HS.out]; exact HM2.out, HB2.out⟩
        case measure => simp [intOf]; omega
    · have hgoI : ¬ (i : Int) < (L.length : Int) := by omega
      obtain ⟨m0, m1, m2, f0, f1, f2⟩ := HM.out.cells
      obtain ⟨r0, r1, r2, e0, e1, e2⟩ := HR.out.cells
      have hil : i = L.length := by omega
      subst hil
      generalize hs : itOf L t = s at *
      have HS := Lib.hid hs
      clear hs
      obtain ⟨s1, s2, s3⟩ := s
      simp only at m0 m1 m2 r0 r1 r2
      go_wp2
      have HE := Lib.hid (HR.out.store s1 s2 s3)
      obtain ⟨x0, x1, x2, _⟩ := HE.out.cells
      refine bodyPost_ret (v := itemV (s1, s2, s3)) (by rw [results_cell1 rfl]; simp [go_sem, itemV, x0, x1, x2]) rfl ?_
      exact ⟨t, by rw [HS.out], HBU.out, below_set3 HB.out (Nat.le_refl _)⟩
/-- What Best tells of some items. -/
def BestRet (J : List Joint) (L : List Item) (w : World) (e : Ending) (w' : World) : Prop := ∃ i, e = .returned (.tuple #[itemV (itOf L i), .bool true]) ∧ BestUpto J L L.length i ∧ Below w.heap.size w w'
theorem pbest_none (K : Nat) (a : Option Addr) (cap : Nat) (w : World) :
    Calls Try.prog 10 #[.pointer (some ⟨K, 0, none⟩), .slice a 0 cap] w fun e w' => e = .returned (.tuple #[itemV (0, 0, 0), .bool false]) ∧ Below w.heap.size w w' := by
  have HR : Hid (HItem (w.alloc (.cells #[.int .i64 0, .int .i64 0, .int .i64 0] 33)) w.heap.size (0, 0, 0)) := Lib.hid (heap_alloc_new w _)
  go_enter Try.func10, Try.ntmps10
  go_wp2
  first
    | refine bodyPost_ret (v := .tuple #[itemV (0, 0, 0), .bool false]) (by rw [results_cell_tmp rfl]; simp [go_sem, itemV]) rfl ?_
    | trace_state
  first
    | exact ⟨rfl, (Below.refl _ w).alloc (Nat.le_refl _) _⟩
    | exact ⟨rfl, below_set3 ((Below.refl _ w).alloc (Nat.le_refl _) _) (Nat.le_refl _)⟩
set_option maxHeartbeats 2000000 in
theorem pbest_some (K : Nat) (v : Value) (b : Option Nat) (J : List Joint) (x : Value) (L : List Item) (w : World) (h : Stab w K v b J) (hJ : J.length ≤ 1000000) (hx : eltsAt itemE w x L) (h0 : 0 < L.length) (hL : L.length < 1000000) (hf : ∀ q ∈ L, FitsI q) :
    Calls Try.prog 10 #[.pointer (some ⟨K, 0, none⟩), x] w fun e w' => BestRet J L w e w' := by
  obtain ⟨w1, hw1⟩ : ∃ w1, w1 = w.alloc (.cells #[.int .i64 0, .int .i64 0, .int .i64 0] 33) := ⟨_, rfl⟩
  have HG1 : Hid (Grown w w1) := Lib.hid (by rw [hw1]; exact (Grown.refl w).alloc _)
  have HR1 : Hid (HItem w1 w.heap.size (0, 0, 0)) := Lib.hid (by rw [hw1]; exact heap_alloc_new w _)
  have hsz1 : w1.heap.size = w.heap.size + 1 := by rw [hw1, World.size_alloc]
  have HS1 := Lib.hid (h.grown HG1.out)
  have HG2 : Hid (Grown w1 (w1.alloc (.cells #[.pointer (some ⟨K, 0, none⟩)] 25))) := Lib.hid ((Grown.refl w1).alloc _)
  have cM := min_any K v b J w1.heap.size x L (w1.alloc (.cells #[.pointer (some ⟨K, 0, none⟩)] 25)) (env_new HS1.out hJ) (hx.below (HG1.out.trans HG2.out).below (Nat.le_refl _)) h0 hL hf
  obtain ⟨a, cap, rfl, _⟩ := hx
  have h0I : ((L.length : Int) == 0) = false := beq_eq_false_iff_ne.2 (by omega)
  have h0J : ¬ (L.length : Int) = 0 := by omega
  have hw' := hw1.symm
  have HSZ := Lib.hid hsz1
  clear h hf hw1 hsz1
  go_enter Try.func10, Try.ntmps10
  go_wp2_with fail
  refine (betterFirst_any K _).mono ?_
  rintro e w2 ⟨rfl, rfl⟩
  unfold closV
  go_wp2_with fail
  refine cM.mono ?_
  rintro e w3 ⟨i, rfl, hbu, hb3⟩
  have HBU := Lib.hid hbu
  have HB3 : Hid (Below w1.heap.size w1 w3) := Lib.hid (HG2.out.below.trans (hb3.mono HG2.out.below.size))
  have HR3 : Hid (HItem w3 w.heap.size (0, 0, 0)) := Lib.hid (HR1.out.kept (HB3.out.block _ HR1.out.lt))
  obtain ⟨r0, r1, r2, e0, e1, e2⟩ := HR3.out.cells
  simp only at r0 r1 r2
  clear hbu hb3 cM hw'
  generalize hs : itOf L i = s
  have HS := Lib.hid hs
  clear hs
  obtain ⟨s1, s2, s3⟩ := s
  unfold itemV
  simp only
  go_wp2
  have HE := Lib.hid (HR3.out.store s1 s2 s3)
  obtain ⟨x0, x1, x2, _⟩ := HE.out.cells
  refine bodyPost_ret (v := .tuple #[itemV (s1, s2, s3), .bool true]) (by rw [results_cell_tmp rfl]; simp [go_sem, itemV, x0, x1, x2]) rfl ?_
  exact ⟨i, by rw [HS.out], HBU.out, below_set3 (HG1.out.below.trans (HB3.out.mono HG1.out.below.size)) (Nat.le_refl _)⟩
end Go.Proofs.Ythjblamfkfclhaa
