/- Pop. -/
import Derived.Test.YtbnekkcjkdghcaaLzTake
import Derived.Deep.LoopGhost
namespace Go.Proofs.Ytbnekkcjkdghcaa
open Go.RowKit Go.Maps Go.Shelf
open Go.Sort (grow grow_empty grow_grow alloc_eq_grow heap_grow_old)
variable {w w' : World} {K T H c m : Nat} {v : Value} {A : List Ent} {hu hk : Int} {tv : Value} {tb : Option Nat} {J : List Joint} {q q' : Qm}

/-- What is live: a function that only lays blocks, and may read blocks of its own (Bk), in a world where E holds. -/
structure LiveF (g : Nat) (lb : Array Value) (f : Int × Int → Int) (E : World → Prop) (Bk : Nat → Prop) : Prop where
  enter : ∀ (args : Array Value) (w : World), (callFunc g args).run Try.prog w = .ok (.enter g args) w
  calls : ∀ (a b : Int) (w : World), FitsPr (a, b) → E w → Calls Try.prog g (#[.agg #[.int .i64 a, .int .i64 b]] ++ lb) w fun e w' => e = .returned (.int .i64 (f (a, b))) ∧ Grown w w'
  keep : ∀ (w w' : World), E w → w.heap.size ≤ w'.heap.size → (∀ k, k < w.heap.size → Bk k → w'.heap[k]? = w.heap[k]?) → E w'
  lt : ∀ (w : World), E w → ∀ k, Bk k → k < w.heap.size
set_option maxRecDepth 100000 in
theorem LiveF.grown {g : Nat} {lb : Array Value} {f : Int × Int → Int} {E : World → Prop} {Bk : Nat → Prop} (L : LiveF g lb f E Bk) (h : E w) (k : Grown w w') : E w' := L.keep w w' h k.below.size fun i hi _ => k.below.block i hi
set_option maxRecDepth 100000 in
theorem LiveF.kept {g : Nat} {lb : Array Value} {f : Int × Int → Int} {E : World → Prop} {Bk S : Nat → Prop} (L : LiveF g lb f E Bk) (h : E w) (k : Kept S w w') (hS : ∀ i, S i → ¬ Bk i) : E w' := L.keep w w' h k.size fun i hi hb => k.block i hi fun hs => hS i hs hb
set_option maxRecDepth 100000 in
theorem Try.isLive (g : Nat) (lb : Array Value) (w : World) : (binOp BinOp.eql 46 (Value.func (Fn.func g) #[] lb) Value.nilFunc).run Try.prog w = .ok (.bool false) w := by kernel_rfl
set_option maxRecDepth 100000 in
theorem Try.noLive (w : World) : (binOp BinOp.eql 46 Value.nilFunc Value.nilFunc).run Try.prog w = .ok (.bool true) w := by kernel_rfl
/-- What Pop tells. -/
def popV : Option Item → Value
  | .none => .tuple #[itemV (0, 0, 0), .bool false]
  | .some x => .tuple #[itemV x, .bool true]
def LPopRet (w : World) (K T H c m : Nat) (v : Value) (tv : Value) (tb : Option Nat) (J : List Joint) (f : Int × Int → Int) (q : Qm) (e : Ending) (w' : World) : Prop :=
  ∃ o l n, Pops J f q.ents o l n ∧ e = .returned (popV o) ∧ LRet w K T H c m v tv tb J (popQ q o l n) w'
set_option maxRecDepth 100000 in
theorem LzIn.other (h : LzIn w K T H c m v A hu hk tv tb J q) {k : Nat} {cs : Array Value} {t : TypeId} {fr : Nat × Nat} (hk0 : w.heap[k]? = some (.cells cs t fr)) (h1 : 66 ≠ t) (h2 : 86 ≠ t) (h3 : 61 ≠ t) : ¬ mineL K H m v k := by
  have hkk := kind_cells hk0
  rintro (rfl | rfl | rfl | e)
  · rw [h.kindK] at hkk; exact h1 (Nat.succ.inj hkk)
  · rw [h.kindM] at hkk; cases hkk
  · rw [h.kindH] at hkk; exact h2 (Nat.succ.inj hkk)
  · rw [h.kindR e] at hkk; exact h3 (Nat.succ.inj hkk)
set_option maxRecDepth 100000 in
theorem LzIn.other2 (h : LzIn w K T H c m v A hu hk tv tb J q) {k : Nat} {cs : Array Value} {t : TypeId} {fr : Nat × Nat} (hk0 : w.heap[k]? = some (.cells cs t fr)) (h1 : 70 ≠ t) (h2 : 111 ≠ t) (h3 : 26 ≠ t) : ¬ lzBet T c tv tb k := by
  have hkk := kind_cells hk0
  intro e
  rcases h.kindT e with e | e | e | ⟨e, _⟩
  · rw [e] at hkk; exact h1 (Nat.succ.inj hkk)
  · rw [e] at hkk; exact h2 (Nat.succ.inj hkk)
  · rw [e] at hkk; exact h3 (Nat.succ.inj hkk)
  · rw [e] at hkk; cases hkk
set_option maxRecDepth 100000 in
/-- No block of the order's is one of the queue's, ever. -/
theorem lret_out {H' c' : Nat} {v' : Value} {A' : List Ent} {hu' hk' : Int} (h : LzIn w K T H c m v A hu hk tv tb J q) (h' : LzIn w' K T H' c' m v' A' hu' hk' tv tb J q') (hkp : Kept (mineL K H m v) w w')
    (ho : ∀ k, (mineL K H' m v' k ∨ k = c') → k < w.heap.size → mineL K H m v k ∨ k = c) : ∀ k, mineL K H' m v' k → k < w.heap.size → mineL K H m v k := by
  intro k h1 h2
  rcases ho k (.inl h1) h2 with h3 | rfl
  · exact h3
  · exact absurd h1 (h'.other ((hkp.block k h2 (h.apart.1 k (.inr rfl))).trans h.env.box) (by decide) (by decide) (by decide))
/-- So far: n entries were taken, none was live. -/
structure PpS (w0 : World) (K T H c m : Nat) (v : Value) (tv : Value) (tb : Option Nat) (J : List Joint) (f : Int × Int → Int) (q : Qm) (Nr : Nat) (r : List Item) (n : Nat) (H1 c1 : Nat) (v1 : Value) (A1 : List Ent) (hu1 hk1 : Int) (wr : World) : Prop where
  lz : LzIn wr K T H1 c1 m v1 A1 hu1 hk1 tv tb J { q with ents := r, po := q.po + n }
  pops : ∀ o l k, Pops J f r o l k → Pops J f q.ents o l (k + n)
  kept : Kept (mineL K H m v) w0 wr
  out : ∀ k, mineL K H1 m v1 k → k < w0.heap.size → mineL K H m v k
  outc : c1 < w0.heap.size → mineL K H m v c1 ∨ c1 = c
  br : wr.heap[Nr]? = some (.cells #[.int .i64 0, .int .i64 0, .int .i64 0] 48 (0, 0))
/-- Behind a take. -/
structure PpT (w0 : World) (K T H c m : Nat) (v : Value) (tv : Value) (tb : Option Nat) (J : List Joint) (q : Qm) (Nr : Nat) (r : List Item) (po : Int) (H1 c1 : Nat) (v1 : Value) (A1 : List Ent) (hu1 hk1 : Int) (wr : World) : Prop where
  lz : LzIn wr K T H1 c1 m v1 A1 hu1 hk1 tv tb J { q with ents := r, po := po }
  kept : Kept (mineL K H m v) w0 wr
  out : ∀ k, mineL K H1 m v1 k → k < w0.heap.size → mineL K H m v k
  outc : c1 < w0.heap.size → mineL K H m v c1 ∨ c1 = c
  br : wr.heap[Nr]? = some (.cells #[.int .i64 0, .int .i64 0, .int .i64 0] 48 (0, 0))
set_option maxRecDepth 100000 in
theorem PpS.took {w0 wr w2 : World} {f : Int × Int → Int} {Nr : Nat} {r r2 : List Item} {n : Nat} {H1 c1 : Nat} {v1 : Value} {A1 : List Ent} {hu1 hk1 : Int} {po : Int} (h : PpS w0 K T H c m v tv tb J f q Nr r n H1 c1 v1 A1 hu1 hk1 wr)
    (hr : LRet wr K T H1 c1 m v1 tv tb J { q with ents := r2, po := po } w2) : ∃ H2 c2 v2 A2 hu2 hk2, PpT w0 K T H c m v tv tb J q Nr r2 po H2 c2 v2 A2 hu2 hk2 w2 := by
  obtain ⟨H2, c2, v2, A2, hu2, hk2, b1, b2, b3⟩ := hr
  have hs := h.kept.size
  have hoo := lret_out h.lz b1 b2 b3
  refine ⟨H2, c2, v2, A2, hu2, hk2, b1, h.kept.trans b2 fun k h1 h2 => h.out k h2 h1, fun k h1 h2 => h.out k (hoo k h1 (by omega)) h2, fun h2 => ?_, (b2.block Nr (Array.getElem?_eq_some_iff.1 h.br).1 (h.lz.other h.br (by decide) (by decide) (by decide))).trans h.br⟩
  rcases b3 c2 (.inr rfl) (by omega) with h3 | h3
  · exact .inl (h.out c2 h3 h2)
  · rw [h3] at h2 ⊢
    exact h.outc h2
set_option maxRecDepth 100000 in
theorem PpT.grown {w0 wr w2 : World} {Nr : Nat} {r : List Item} {H1 c1 : Nat} {v1 : Value} {A1 : List Ent} {hu1 hk1 : Int} {po : Int} (h : PpT w0 K T H c m v tv tb J q Nr r po H1 c1 v1 A1 hu1 hk1 wr) (hg : Grown wr w2) : PpT w0 K T H c m v tv tb J q Nr r po H1 c1 v1 A1 hu1 hk1 w2 :=
  ⟨h.lz.grown hg, h.kept.grow hg, h.out, h.outc, (hg.below.block Nr (Array.getElem?_eq_some_iff.1 h.br).1).trans h.br⟩
set_option maxRecDepth 100000 in
theorem PpT.drew {w0 wr : World} {Nr : Nat} {r : List Item} {H1 c1 : Nat} {v1 : Value} {A1 : List Ent} {hu1 hk1 : Int} {po : Int} (h : PpT w0 K T H c m v tv tb J q Nr r po H1 c1 v1 A1 hu1 hk1 wr) : PpT w0 K T H c m v tv tb J q Nr r po H1 c1 v1 A1 hu1 hk1 wr.drew :=
  ⟨h.lz.kept fun _ _ _ => rfl, h.kept.drew, h.out, h.outc, h.br⟩
set_option maxRecDepth 100000 in
/-- The result's box is written over, and Pop is at its end. -/
theorem PpT.fin {w0 wr : World} {Nr : Nat} {r : List Item} {H1 c1 : Nat} {v1 : Value} {A1 : List Ent} {hu1 hk1 : Int} {po : Int} (h : PpT w0 K T H c m v tv tb J q Nr r po H1 c1 v1 A1 hu1 hk1 wr) (hN : w0.heap.size ≤ Nr) (a b d : Value) :
    LRet w0 K T H c m v tv tb J { q with ents := r, po := po } (((wr.setCell ⟨Nr, 0, none⟩ a).setCell ⟨Nr, 1, none⟩ b).setCell ⟨Nr, 2, none⟩ d) := by
  have hne : ∀ k, k ≠ Nr → (((wr.setCell ⟨Nr, 0, none⟩ a).setCell ⟨Nr, 1, none⟩ b).setCell ⟨Nr, 2, none⟩ d).heap[k]? = wr.heap[k]? := fun k hk1 => by
    rw [Below.heap_setCell _ ⟨Nr, 2, none⟩ _ k hk1, Below.heap_setCell _ ⟨Nr, 1, none⟩ _ k hk1, Below.heap_setCell _ ⟨Nr, 0, none⟩ _ k hk1]
  refine ⟨H1, c1, v1, A1, hu1, hk1, h.lz.kept fun k _ h2 => hne k ?_, ?_, fun k h1 h2 => ?_⟩
  · rintro rfl
    rcases h2 with h2 | h2
    · exact h.lz.other h.br (by decide) (by decide) (by decide) h2
    · exact h.lz.other2 h.br (by decide) (by decide) (by decide) h2
  · exact ((h.kept.setCell ⟨Nr, 0, none⟩ _ fun h => by have h' : Nr < w0.heap.size := h; omega).setCell ⟨Nr, 1, none⟩ _ fun h => by have h' : Nr < w0.heap.size := h; omega).setCell ⟨Nr, 2, none⟩ _ fun h => by have h' : Nr < w0.heap.size := h; omega
  · rcases h1 with h1 | rfl
    · exact .inl (h.out k h1 h2)
    · exact h.outc h2
set_option maxRecDepth 100000 in
/-- The map forgets a pair. -/
theorem PpT.drop {w0 wr w2 : World} {Nr : Nat} {r : List Item} {H1 c1 : Nat} {v1 : Value} {A1 : List Ent} {hu1 hk1 : Int} {po : Int} {M : Cn} (h : PpT w0 K T H c m v tv tb J q Nr r po H1 c1 v1 A1 hu1 hk1 wr) (hg : wr.grownBy w2 (some m)) (hM : CMap w2 m M) (hs : SaneQ J ⟨r, M, q.pu, po, q.pk, q.re⟩) : PpT w0 K T H c m v tv tb J { q with known := M } Nr r po H1 c1 v1 A1 hu1 hk1 w2 :=
  ⟨h.lz.mapped hg hM hs, h.kept.grown hg fun k e _ => by cases e; exact .inr (.inl rfl), h.out, h.outc, (hg.block Nr (Array.getElem?_eq_some_iff.1 h.br).1 fun e => h.lz.other h.br (by decide) (by decide) (by decide) (by cases e; exact .inr (.inl rfl))).trans h.br⟩
set_option maxRecDepth 100000 in
theorem SaneQ.del {q : Qm} (h : SaneQ J q) (p : Int × Int) : SaneQ J { q with known := delC q.known p } :=
  ⟨h.ents, fun x hx => h.known x (del_mem.1 hx).1, ris_del h.ris p, h.po, h.cnt, by have := h.len; have := del_len_le q.known p; simp only; omega, h.re⟩
def PpRel (w0 : World) (K T H c m : Nat) (v : Value) (tv : Value) (tb : Option Nat) (J : List Joint) (f : Int × Int → Int) (q : Qm) (Nr kx : Nat) (wr : World) : Prop :=
  ∃ r n H1 c1 v1 A1 hu1 hk1, r.length ≤ kx ∧ PpS w0 K T H c m v tv tb J f q Nr r n H1 c1 v1 A1 hu1 hk1 wr
set_option maxRecDepth 100000 in
set_option maxHeartbeats 4000000 in
theorem lpop_any {g : Nat} {lb : Array Value} {f : Int × Int → Int} {E : World → Prop} {Bk : Nat → Prop} (L : LiveF g lb f E Bk) (h : LzIn w K T H c m v A hu hk tv tb J q) (hE : E w) (hap : ∀ k, mineL K H m v k ∨ k = c → ¬ Bk k) (hpu : q.pu ≤ 80000) :
    Calls Try.prog 14 #[.pointer (some ⟨K, 0, none⟩), .func (.func g) #[] lb] w (LPopRet w K T H c m v tv tb J f q) := by
  obtain ⟨Nr, hNr⟩ : ∃ Nr, w.heap.size = Nr := ⟨_, rfl⟩
  obtain ⟨wa, hwa⟩ : ∃ wa, w.alloc (.cells #[.int .i64 0, .int .i64 0, .int .i64 0] 48) = wa := ⟨_, rfl⟩
  have hga : Grown w wa := by rw [← hwa]; exact (Grown.refl w).alloc _
  have hla := Try.isLive g lb
  have hba : wa.heap[Nr]? = some (.cells #[.int .i64 0, .int .i64 0, .int .i64 0] 48 (0, 0)) := by rw [← hwa, ← hNr]; exact heap_alloc_new w _
  have HL := Lib.hid L; have HH := Lib.hid h; have HAP := Lib.hid hap; have HEE := Lib.hid hE
  have HNR := Lib.hid hNr
  have hst : PpS w K T H c m v tv tb J f q Nr q.ents 0 H c v A hu hk wa :=
    ⟨by simpa using h.grown hga, fun o l k hp => by simpa using hp, Kept.of_below hga.below (Nat.le_refl _), fun k hk1 _ => hk1, fun _ => .inr rfl, hba⟩
  have HST : Hid (PpRel w K T H c m v tv tb J f q Nr q.ents.length wa) := Lib.hid ⟨q.ents, 0, H, c, v, A, hu, hk, Nat.le_refl _, hst⟩
  have hmixed : Try.prog.follows .mixedOrders = true := by kernel_rfl
  clear h hap hE hga hba hst L
  go_enter Try.func14, Try.ntmps14
  go_wp2_with fail
  go_loopg [] q.ents.length (fun kx wr => PpRel w K T H c m v tv tb J f q Nr kx wr)
  case atStart => exact HST.out
  case round =>
    clear HST hwa
    obtain ⟨r, n, H1, c1, v1, A1, hu1, hk1, hrl, hps⟩ := hrel
    have HPS := Lib.hid hps; have HRL := Lib.hid hrl
    have cT := take_any hps.lz (by show q.pu ≤ 90000; omega)
    clear hps hrl
    go_wp2_with fail
    refine cT.mono ?_
    rintro e w2 hr
    rcases hr with ⟨hnil, rfl, hL2⟩ | ⟨x, r', hp, hb, rfl, hL2⟩
    · obtain ⟨H2, c2, v2, A2, hu2, hk2, ht⟩ := HPS.out.took hL2
      obtain rfl : r = [] := hnil
      have ht3 := ht.grown ((Grown.refl w2).alloc (.cells #[.int .i64 0, .int .i64 0, .int .i64 0] 48))
      have hbr3 := ht3.br
      have e0 : (w2.alloc (.cells #[.int .i64 0, .int .i64 0, .int .i64 0] 48)).cell? ⟨Nr, 0, none⟩ = some (.int .i64 0) := by rw [cell_of_row (w2.alloc (.cells #[.int .i64 0, .int .i64 0, .int .i64 0] 48)) Nr _ _ 48 (0, 0) hbr3]; rfl
      have f0 : (w2.alloc (.cells #[.int .i64 0, .int .i64 0, .int .i64 0] 48)).frozen? ⟨Nr, 0, none⟩ = false := Lib.frozen_of_heap hbr3 _
      have e1 : (w2.alloc (.cells #[.int .i64 0, .int .i64 0, .int .i64 0] 48)).cell? ⟨Nr, 1, none⟩ = some (.int .i64 0) := by rw [cell_of_row (w2.alloc (.cells #[.int .i64 0, .int .i64 0, .int .i64 0] 48)) Nr _ _ 48 (0, 0) hbr3]; rfl
      have f1 : (w2.alloc (.cells #[.int .i64 0, .int .i64 0, .int .i64 0] 48)).frozen? ⟨Nr, 1, none⟩ = false := Lib.frozen_of_heap hbr3 _
      have e2 : (w2.alloc (.cells #[.int .i64 0, .int .i64 0, .int .i64 0] 48)).cell? ⟨Nr, 2, none⟩ = some (.int .i64 0) := by rw [cell_of_row (w2.alloc (.cells #[.int .i64 0, .int .i64 0, .int .i64 0] 48)) Nr _ _ 48 (0, 0) hbr3]; rfl
      have f2 : (w2.alloc (.cells #[.int .i64 0, .int .i64 0, .int .i64 0] 48)).frozen? ⟨Nr, 2, none⟩ = false := Lib.frozen_of_heap hbr3 _
      have HT3 := Lib.hid ht3
      have HPO : Hid (LPopRet w K T H c m v tv tb J f q (.returned (.tuple #[.agg #[.int .i64 0, .int .i64 0, .int .i64 0], .bool false])) ((((w2.alloc (.cells #[.int .i64 0, .int .i64 0, .int .i64 0] 48)).setCell ⟨Nr, 0, none⟩ (.int .i64 0)).setCell ⟨Nr, 1, none⟩ (.int .i64 0)).setCell ⟨Nr, 2, none⟩ (.int .i64 0))) := Lib.hid
        ⟨.none, [], 0 + n, HPS.out.pops _ _ _ .none, rfl, by
          have := HT3.out.fin (Nat.le_of_eq HNR.out) (.int .i64 0) (.int .i64 0) (.int .i64 0)
          rw [Nat.zero_add]
          exact this⟩
      clear hL2 ht ht3 hbr3 cT
      unfold itemV
      go_wp2
      have h0 := heap_setCell_at (heap_setCell_at (heap_setCell_at HT3.out.br (i := 0) (.int .i64 0)) (i := 1) (.int .i64 0)) (i := 2) (.int .i64 0)
      have x0 := cell_of_row _ Nr 0 _ 48 (0, 0) h0
      have x1 := cell_of_row _ Nr 1 _ 48 (0, 0) h0
      have x2 := cell_of_row _ Nr 2 _ 48 (0, 0) h0
      refine bodyPost_ret (v := .tuple #[.agg #[.int .i64 0, .int .i64 0, .int .i64 0], .bool false]) (by rw [results_cell_tmp rfl]; simp [go_sem, x0, x1, x2]) rfl ?_
      exact HPO.out
    · obtain ⟨H2, c2, v2, A2, hu2, hk2, ht⟩ := HPS.out.took hL2
      obtain ⟨a, b, d⟩ := x
      obtain ⟨M, hM⟩ : ∃ M, w2.heap.size = M := ⟨_, rfl⟩
      obtain ⟨w3, hw3⟩ : ∃ w3, w2.alloc (.cells #[.int .i64 a, .int .i64 b, .int .i64 d] 48) = w3 := ⟨_, rfl⟩
      have hg23 : Grown w2 w3 := by rw [← hw3]; exact (Grown.refl w2).alloc _
      have hbm : w3.heap[M]? = some (.cells #[.int .i64 a, .int .i64 b, .int .i64 d] 48 (0, 0)) := by rw [← hw3, ← hM]; exact heap_alloc_new w2 _
      have ht3 := ht.grown hg23
      have hE3 : E w3 := HL.out.kept HEE.out ht3.kept fun k hk1 => HAP.out k (.inl hk1)
      have hxr : (a, b, d) ∈ r := hp.mem_iff.2 List.mem_cons_self
      have hfx := (HPS.out.lz.sane.ents (a, b, d) hxr).1
      have hfp : FitsPr (a, b) := ⟨hfx.1, hfx.2.1⟩
      have hMN : M ≠ Nr := fun e => by
        have := (Array.getElem?_eq_some_iff.1 ht.br).1
        omega
      have y0 : w3.cell? ⟨M, 0, none⟩ = some (.int .i64 a) := by rw [cell_of_row w3 M _ _ 48 (0, 0) hbm]; rfl
      have y1 : w3.cell? ⟨M, 1, none⟩ = some (.int .i64 b) := by rw [cell_of_row w3 M _ _ 48 (0, 0) hbm]; rfl
      have y2 : w3.cell? ⟨M, 2, none⟩ = some (.int .i64 d) := by rw [cell_of_row w3 M _ _ 48 (0, 0) hbm]; rfl
      have g0 := cell_grown_at y0
      have g1 := cell_grown_at y1
      have g2 := cell_grown_at y2
      have hcg : ∀ n os, Calls Try.prog g (#[.agg #[.int .i64 a, .int .i64 b]] ++ lb) (grow (w3.drewN n) os) fun e w' => e = .returned (.int .i64 (f (a, b))) ∧ ∃ q os', w' = grow ((grow (w3.drewN n) os).drewN q) os' := fun n os => HL.out.calls a b _ hfp (HL.out.grown hE3 (Grown.of w3 n os))
      have eg := HL.out.enter
      have HT3 := Lib.hid ht3; have HBM := Lib.hid hbm; have HP := Lib.hid hp; have HB := Lib.hid hb; have HFP := Lib.hid hfp
      have HMN := Lib.hid hMN
      clear hL2 ht ht3 hbm cT hE3 hxr hfx hfp hp hb hg23 hMN
      unfold itemV
      by_cases hf : f (a, b) = d
      · have HF := Lib.hid hf
        rw [hf] at hcg
        clear hf
        go_wp2_with fail
        refine wp_region_quiet_grown (by assumption) (by kernel_rfl) ?_
        repeat (first | go_big_quiet_skip | quiet_step (first | (go_at_fn g; refine Calls.grown_of (hcg _ _))))
        refine wpQuiet_nil ?_
        intro _ hw'
        obtain ⟨⟨nq, osq⟩, hw''⟩ := hw'
        subst hw''
        dsimp only
        obtain ⟨wq, hwq⟩ : ∃ wq, grow (w3.drewN nq) osq = wq := ⟨_, rfl⟩
        rw [hwq]
        have hgq : Grown w3 wq := by rw [← hwq]; exact Grown.of w3 nq osq
        have htq := HT3.out.grown hgq
        have hbq := (hgq.below.block M (Array.getElem?_eq_some_iff.1 HBM.out).1).trans HBM.out
        obtain ⟨_, _, d2, _, _, _, _⟩ := htq.lz.cells
        have u0 : wq.cell? ⟨M, 0, none⟩ = some (.int .i64 a) := by rw [cell_of_row wq M _ _ 48 (0, 0) hbq]; rfl
        have u1 : wq.cell? ⟨M, 1, none⟩ = some (.int .i64 b) := by rw [cell_of_row wq M _ _ 48 (0, 0) hbq]; rfl
        have u2 : wq.cell? ⟨M, 2, none⟩ = some (.int .i64 d) := by rw [cell_of_row wq M _ _ 48 (0, 0) hbq]; rfl
        obtain ⟨w4, hrun, hM4, hg4⟩ := drop_c (w := wq.drew) (m := some m) (L := q.known) (htq.lz.map.kept rfl) HFP.out
        unfold pv at hrun
        simp only at hrun
        have hd4 := htq.drew.drop hg4 hM4 (htq.lz.sane.del (a, b))
        have hmM : m ≠ M := fun e => by
          obtain ⟨es, cl, hmb⟩ := htq.lz.map.block
          rw [e, hbq] at hmb; cases hmb
        have hb4 := (hg4.block M (Array.getElem?_eq_some_iff.1 hbq).1 fun e => hmM (by cases e; rfl)).trans hbq
        have hbr4 := hd4.br
        have z0 : w4.cell? ⟨M, 0, none⟩ = some (.int .i64 a) := by rw [cell_of_row w4 M _ _ 48 (0, 0) hb4]; rfl
        have z1 : w4.cell? ⟨M, 1, none⟩ = some (.int .i64 b) := by rw [cell_of_row w4 M _ _ 48 (0, 0) hb4]; rfl
        have z2 : w4.cell? ⟨M, 2, none⟩ = some (.int .i64 d) := by rw [cell_of_row w4 M _ _ 48 (0, 0) hb4]; rfl
        have e0 : w4.cell? ⟨Nr, 0, none⟩ = some (.int .i64 0) := by rw [cell_of_row w4 Nr _ _ 48 (0, 0) hbr4]; rfl
        have f0 : w4.frozen? ⟨Nr, 0, none⟩ = false := Lib.frozen_of_heap hbr4 _
        have e1 : w4.cell? ⟨Nr, 1, none⟩ = some (.int .i64 0) := by rw [cell_of_row w4 Nr _ _ 48 (0, 0) hbr4]; rfl
        have f1 : w4.frozen? ⟨Nr, 1, none⟩ = false := Lib.frozen_of_heap hbr4 _
        have e2 : w4.cell? ⟨Nr, 2, none⟩ = some (.int .i64 0) := by rw [cell_of_row w4 Nr _ _ 48 (0, 0) hbr4]; rfl
        have f2 : w4.frozen? ⟨Nr, 2, none⟩ = false := Lib.frozen_of_heap hbr4 _
        have HPO : Hid (LPopRet w K T H c m v tv tb J f q (.returned (.tuple #[.agg #[.int .i64 a, .int .i64 b, .int .i64 d], .bool true])) (((w4.setCell ⟨Nr, 0, none⟩ (.int .i64 a)).setCell ⟨Nr, 1, none⟩ (.int .i64 b)).setCell ⟨Nr, 2, none⟩ (.int .i64 d))) := Lib.hid
          ⟨.some (a, b, d), r', 1 + n, HPS.out.pops _ _ _ (.hit HP.out HB.out HF.out), rfl, by
            have h1 := hd4.fin (Nat.le_of_eq HNR.out) (.int .i64 a) (.int .i64 b) (.int .i64 d)
            have h2 : q.po + (n : Int) + 1 = q.po + ((1 + n : Nat) : Int) := by omega
            simp only [h2] at h1
            exact h1⟩
        have HBR4 := Lib.hid hbr4
        clear hwq hgq htq hbq hM4 hg4 hd4 hmM hb4 hbr4
        go_wp2_with fail
        go_region
        go_wp2
        have h0 := heap_setCell_at (heap_setCell_at (heap_setCell_at HBR4.out (i := 0) (.int .i64 a)) (i := 1) (.int .i64 b)) (i := 2) (.int .i64 d)
        have x0 := cell_of_row _ Nr 0 _ 48 (0, 0) h0
        have x1 := cell_of_row _ Nr 1 _ 48 (0, 0) h0
        have x2 := cell_of_row _ Nr 2 _ 48 (0, 0) h0
        refine bodyPost_ret (v := .tuple #[.agg #[.int .i64 a, .int .i64 b, .int .i64 d], .bool true]) (by rw [results_cell_tmp rfl]; simp [go_sem, x0, x1, x2]) rfl ?_
        exact HPO.out
      · have HF := Lib.hid hf
        obtain ⟨fv, hfv⟩ : ∃ fv, f (a, b) = fv := ⟨_, rfl⟩
        rw [hfv] at hcg hf
        have hfe : (fv == d) = false := by simp [hf]
        clear hfv
        go_wp2_with fail
        refine wp_region_quiet_grown (by assumption) (by kernel_rfl) ?_
        repeat (first | go_big_quiet_skip | quiet_step (first | (go_at_fn g; refine Calls.grown_of (hcg _ _))))
        refine wpQuiet_nil ?_
        intro _ hw'
        obtain ⟨⟨nq, osq⟩, hw''⟩ := hw'
        subst hw''
        dsimp only
        obtain ⟨wq, hwq⟩ : ∃ wq, grow (w3.drewN nq) osq = wq := ⟨_, rfl⟩
        rw [hwq]
        have hgq : Grown w3 wq := by rw [← hwq]; exact Grown.of w3 nq osq
        have HTQ := Lib.hid (HT3.out.grown hgq)
        clear hwq hgq
        go_wp2
        go_roundg r'.length
        case rel =>
          refine ⟨r', n + 1, H2, c2, v2, A2, hu2, hk2, Nat.le_refl _, ?_, fun o l k hk1 => ?_, HTQ.out.kept, HTQ.out.out, HTQ.out.outc, HTQ.out.br⟩
          · have h1 := HTQ.out.lz
            have h2 : q.po + (n : Int) + 1 = q.po + ((n + 1 : Nat) : Int) := by omega
            simp only [h2] at h1
            exact h1
          · have h1 := HPS.out.pops o l (k + 1) (.miss HP.out HB.out HF.out hk1)
            rw [show k + (n + 1) = k + 1 + n by omega]
            exact h1
        case measure =>
          have h1 := HP.out.length_eq
          have h2 := HRL.out
          rw [List.length_cons] at h1
          omega
end Go.Proofs.Ytbnekkcjkdghcaa
