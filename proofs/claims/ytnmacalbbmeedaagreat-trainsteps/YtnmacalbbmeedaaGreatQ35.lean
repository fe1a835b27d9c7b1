/- Texts in one: LzPop, LzSt, LzPopM, IxLive. -/
import Derived.Test.YtnmacalbbmeedaaGreatQ34
import Derived.Deep.LoopGhost
import Derived.Test.YtnmacalbbmeedaaGreatQ26
/- Pop. -/
namespace Go.Proofs.YtnmacalbbmeedaaGreat
open Go.RowKit Go.Maps Go.Shelf
open Go.Sort (grow grow_empty grow_grow alloc_eq_grow heap_grow_old)
variable {w w' : World} {K T H c m : Nat} {v : Value} {A : List Ent} {hu hk : Int} {tv : Value} {tb : Option Nat} {J : List Joint} {q q' : Qm}

/-- What is live: a function that only lays blocks, and may read blocks of its own (Bk), in a world where E holds. -/
structure LiveF (g : Nat) (lb : Array Value) (f : Int × Int → Int) (E : World → Prop) (Bk : Nat → Prop) : Prop where
  enter : ∀ (args : Array Value) (w : World), (callFunc g args).run Tryz.prog w = .ok (.enter g args) w
  calls : ∀ (a b : Int) (w : World), FitsPr (a, b) → E w → Calls Tryz.prog g (#[.agg #[.int .i64 a, .int .i64 b]] ++ lb) w fun e w' => e = .returned (.int .i64 (f (a, b))) ∧ Grown w w'
  keep : ∀ (w w' : World), E w → w.heap.size ≤ w'.heap.size → (∀ k, k < w.heap.size → Bk k → w'.heap[k]? = w.heap[k]?) → E w'
  lt : ∀ (w : World), E w → ∀ k, Bk k → k < w.heap.size
set_option maxRecDepth 100000 in
theorem LiveF.grown {g : Nat} {lb : Array Value} {f : Int × Int → Int} {E : World → Prop} {Bk : Nat → Prop} (L : LiveF g lb f E Bk) (h : E w) (k : Grown w w') : E w' := L.keep w w' h k.below.size fun i hi _ => k.below.block i hi
set_option maxRecDepth 100000 in
theorem LiveF.kept {g : Nat} {lb : Array Value} {f : Int × Int → Int} {E : World → Prop} {Bk S : Nat → Prop} (L : LiveF g lb f E Bk) (h : E w) (k : Kept S w w') (hS : ∀ i, S i → ¬ Bk i) : E w' := L.keep w w' h k.size fun i hi hb => k.block i hi fun hs => hS i hs hb
/-- What Pop tells. -/
def popV : Option Item → Value
  | .none => .tuple #[itemV (0, 0, 0), .bool false]
  | .some x => .tuple #[itemV x, .bool true]
def LPopRet (w : World) (K T H c m : Nat) (v : Value) (tv : Value) (tb : Option Nat) (J : List Joint) (f : Int × Int → Int) (q : Qm) (e : Ending) (w' : World) : Prop :=
  ∃ o l n, Pops J f q.ents o l n ∧ e = .returned (popV o) ∧ LRet w K T H c m v tv tb J (popQ q o l n) w'
set_option maxRecDepth 100000 in
theorem LzIn.other (h : LzIn w K T H c m v A hu hk tv tb J q) {k : Nat} {cs : Array Value} {t : TypeId} {fr : Nat × Nat} (hk0 : w.heap[k]? = some (.cells cs t fr)) (h1 : 116 ≠ t) (h2 : 142 ≠ t) (h3 : 111 ≠ t) : ¬ mineL K H m v k := by
  have hkk := kind_cells hk0
  rintro (rfl | rfl | rfl | e)
  · rw [h.kindK] at hkk; exact h1 (Nat.succ.inj hkk)
  · rw [h.kindM] at hkk; cases hkk
  · rw [h.kindH] at hkk; exact h2 (Nat.succ.inj hkk)
  · rw [h.kindR e] at hkk; exact h3 (Nat.succ.inj hkk)
set_option maxRecDepth 100000 in
theorem LzIn.other2 (h : LzIn w K T H c m v A hu hk tv tb J q) {k : Nat} {cs : Array Value} {t : TypeId} {fr : Nat × Nat} (hk0 : w.heap[k]? = some (.cells cs t fr)) (h1 : 107 ≠ t) (h2 : 129 ≠ t) (h3 : 66 ≠ t) : ¬ lzBet T c tv tb k := by
  have hkk := kind_cells hk0
  intro e
  rcases h.kindT e with e | e | e | ⟨e, _⟩
  · rw [e] at hkk; exact h1 (Nat.succ.inj hkk)
  · rw [e] at hkk; exact h2 (Nat.succ.inj hkk)
  · rw [e] at hkk; exact h3 (Nat.succ.inj hkk)
  · rw [e] at hkk; cases hkk
set_option maxRecDepth 100000 in
/-- No block of the order's is one of the queue's, ever. -/
theorem lret_out {H' c' : Nat} {v' : Value} {A' : List Ent} {hu' hk' : Int} (h : LzIn w K T H c m v A hu hk tv tb J q) (h' : LzIn w' K T H' c' m v' A' hu' hk' tv tb J q') (hkp : Kept (mineL K H m v) w w')
    (ho : ∀ k, (mineL K H' m v' k ∨ k = c') → k < w.heap.size → mineL K H m v k ∨ k = c) : ∀ k, mineL K H' m v' k → k < w.heap.size → mineL K H m v k := by
  intro k h1 h2
  rcases ho k (.inl h1) h2 with h3 | rfl
  · exact h3
  · exact absurd h1 (h'.other ((hkp.block k h2 (h.apart.1 k (.inr rfl))).trans h.env.box) (by decide) (by decide) (by decide))
/-- So far: n entries were taken, none was live. -/
structure PpS (w0 : World) (K T H c m : Nat) (v : Value) (tv : Value) (tb : Option Nat) (J : List Joint) (f : Int × Int → Int) (q : Qm) (Nr : Nat) (r : List Item) (n : Nat) (H1 c1 : Nat) (v1 : Value) (A1 : List Ent) (hu1 hk1 : Int) (wr : World) : Prop where
  lz : LzIn wr K T H1 c1 m v1 A1 hu1 hk1 tv tb J { q with ents := r, po := q.po + n }
  pops : ∀ o l k, Pops J f r o l k → Pops J f q.ents o l (k + n)
  kept : Kept (mineL K H m v) w0 wr
  out : ∀ k, mineL K H1 m v1 k → k < w0.heap.size → mineL K H m v k
  outc : c1 < w0.heap.size → mineL K H m v c1 ∨ c1 = c
  br : wr.heap[Nr]? = some (.cells #[.int .i64 0, .int .i64 0, .int .i64 0] 79 (0, 0))
/-- Behind a take. -/
structure PpT (w0 : World) (K T H c m : Nat) (v : Value) (tv : Value) (tb : Option Nat) (J : List Joint) (q : Qm) (Nr : Nat) (r : List Item) (po : Int) (H1 c1 : Nat) (v1 : Value) (A1 : List Ent) (hu1 hk1 : Int) (wr : World) : Prop where
  lz : LzIn wr K T H1 c1 m v1 A1 hu1 hk1 tv tb J { q with ents := r, po := po }
  kept : Kept (mineL K H m v) w0 wr
  out : ∀ k, mineL K H1 m v1 k → k < w0.heap.size → mineL K H m v k
  outc : c1 < w0.heap.size → mineL K H m v c1 ∨ c1 = c
  br : wr.heap[Nr]? = some (.cells #[.int .i64 0, .int .i64 0, .int .i64 0] 79 (0, 0))
set_option maxRecDepth 100000 in
theorem PpS.took {w0 wr w2 : World} {f : Int × Int → Int} {Nr : Nat} {r r2 : List Item} {n : Nat} {H1 c1 : Nat} {v1 : Value} {A1 : List Ent} {hu1 hk1 : Int} {po : Int} (h : PpS w0 K T H c m v tv tb J f q Nr r n H1 c1 v1 A1 hu1 hk1 wr)
    (hr : LRet wr K T H1 c1 m v1 tv tb J { q with ents := r2, po := po } w2) : ∃ H2 c2 v2 A2 hu2 hk2, PpT w0 K T H c m v tv tb J q Nr r2 po H2 c2 v2 A2 hu2 hk2 w2 := by
  obtain ⟨H2, c2, v2, A2, hu2, hk2, b1, b2, b3⟩ := hr
  have hs := h.kept.size
  have hoo := lret_out h.lz b1 b2 b3
  refine ⟨H2, c2, v2, A2, hu2, hk2, b1, h.kept.trans b2 fun k h1 h2 => h.out k h2 h1, fun k h1 h2 => h.out k (hoo k h1 (by omega)) h2, fun h2 => ?_, (b2.block Nr (Array.getElem?_eq_some_iff.1 h.br).1 (h.lz.other h.br (by decide) (by decide) (by decide))).trans h.br⟩
  rcases b3 c2 (.inr rfl) (by omega) with h3 | h3
  · exact .inl (h.out c2 h3 h2)
  · rw [h3] at h2 ⊢
    exact h.outc h2
set_option maxRecDepth 100000 in
theorem PpT.grown {w0 wr w2 : World} {Nr : Nat} {r : List Item} {H1 c1 : Nat} {v1 : Value} {A1 : List Ent} {hu1 hk1 : Int} {po : Int} (h : PpT w0 K T H c m v tv tb J q Nr r po H1 c1 v1 A1 hu1 hk1 wr) (hg : Grown wr w2) : PpT w0 K T H c m v tv tb J q Nr r po H1 c1 v1 A1 hu1 hk1 w2 :=
  ⟨h.lz.grown hg, h.kept.grow hg, h.out, h.outc, (hg.below.block Nr (Array.getElem?_eq_some_iff.1 h.br).1).trans h.br⟩
set_option maxRecDepth 100000 in
theorem PpT.drew {w0 wr : World} {Nr : Nat} {r : List Item} {H1 c1 : Nat} {v1 : Value} {A1 : List Ent} {hu1 hk1 : Int} {po : Int} (h : PpT w0 K T H c m v tv tb J q Nr r po H1 c1 v1 A1 hu1 hk1 wr) : PpT w0 K T H c m v tv tb J q Nr r po H1 c1 v1 A1 hu1 hk1 wr.drew :=
  ⟨h.lz.kept fun _ _ _ => rfl, h.kept.drew, h.out, h.outc, h.br⟩
set_option maxRecDepth 100000 in
/-- The result's box is written over, and Pop is at its end. -/
theorem PpT.fin {w0 wr : World} {Nr : Nat} {r : List Item} {H1 c1 : Nat} {v1 : Value} {A1 : List Ent} {hu1 hk1 : Int} {po : Int} (h : PpT w0 K T H c m v tv tb J q Nr r po H1 c1 v1 A1 hu1 hk1 wr) (hN : w0.heap.size ≤ Nr) (a b d : Value) :
    LRet w0 K T H c m v tv tb J { q with ents := r, po := po } (((wr.setCell ⟨Nr, 0, none⟩ a).setCell ⟨Nr, 1, none⟩ b).setCell ⟨Nr, 2, none⟩ d) := by
  have hne : ∀ k, k ≠ Nr → (((wr.setCell ⟨Nr, 0, none⟩ a).setCell ⟨Nr, 1, none⟩ b).setCell ⟨Nr, 2, none⟩ d).heap[k]? = wr.heap[k]? := fun k hk1 => by
    rw [Below.heap_setCell _ ⟨Nr, 2, none⟩ _ k hk1, Below.heap_setCell _ ⟨Nr, 1, none⟩ _ k hk1, Below.heap_setCell _ ⟨Nr, 0, none⟩ _ k hk1]
  refine ⟨H1, c1, v1, A1, hu1, hk1, h.lz.kept fun k _ h2 => hne k ?_, ?_, fun k h1 h2 => ?_⟩
  · rintro rfl
    rcases h2 with h2 | h2
    · exact h.lz.other h.br (by decide) (by decide) (by decide) h2
    · exact h.lz.other2 h.br (by decide) (by decide) (by decide) h2
  · exact ((h.kept.setCell ⟨Nr, 0, none⟩ _ fun h => by have h' : Nr < w0.heap.size := h; omega).setCell ⟨Nr, 1, none⟩ _ fun h => by have h' : Nr < w0.heap.size := h; omega).setCell ⟨Nr, 2, none⟩ _ fun h => by have h' : Nr < w0.heap.size := h; omega
  · rcases h1 with h1 | rfl
    · exact .inl (h.out k h1 h2)
    · exact h.outc h2
set_option maxRecDepth 100000 in
/-- The map forgets a pair. -/
theorem PpT.drop {w0 wr w2 : World} {Nr : Nat} {r : List Item} {H1 c1 : Nat} {v1 : Value} {A1 : List Ent} {hu1 hk1 : Int} {po : Int} {M : Cn} (h : PpT w0 K T H c m v tv tb J q Nr r po H1 c1 v1 A1 hu1 hk1 wr) (hg : wr.grownBy w2 (some m)) (hM : CMap w2 m M) (hs : SaneQ J ⟨r, M, q.pu, po, q.pk, q.re⟩) : PpT w0 K T H c m v tv tb J { q with known := M } Nr r po H1 c1 v1 A1 hu1 hk1 w2 :=
  ⟨h.lz.mapped hg hM hs, h.kept.grown hg fun k e _ => by cases e; exact .inr (.inl rfl), h.out, h.outc, (hg.block Nr (Array.getElem?_eq_some_iff.1 h.br).1 fun e => h.lz.other h.br (by decide) (by decide) (by decide) (by cases e; exact .inr (.inl rfl))).trans h.br⟩
set_option maxRecDepth 100000 in
theorem SaneQ.del {q : Qm} (h : SaneQ J q) (p : Int × Int) : SaneQ J { q with known := delC q.known p } :=
  ⟨h.ents, fun x hx => h.known x (del_mem.1 hx).1, ris_del h.ris p, h.po, h.cnt, by have := h.len; have := del_len_le q.known p; simp only; omega, h.re⟩
def PpRel (w0 : World) (K T H c m : Nat) (v : Value) (tv : Value) (tb : Option Nat) (J : List Joint) (f : Int × Int → Int) (q : Qm) (Nr kx : Nat) (wr : World) : Prop :=
  ∃ r n H1 c1 v1 A1 hu1 hk1, r.length ≤ kx ∧ PpS w0 K T H c m v tv tb J f q Nr r n H1 c1 v1 A1 hu1 hk1 wr
end Go.Proofs.YtnmacalbbmeedaaGreat
/- A queue with the set of its blocks (LzLaw without the laws: not both). -/
namespace Go.Proofs.YtnmacalbbmeedaaGreat
open Go.RowKit Go.Maps Go.Shelf
open Go.Sort (grow grow_empty grow_grow alloc_eq_grow heap_grow_old)

/-- Block K is a queue; all its blocks are in S. -/
def Lz (w : World) (S : Nat → Prop) (K T : Nat) (tv : Value) (tb : Option Nat) (J : List Joint) (q : Qm) : Prop :=
  ∃ H c m v A hu hk, LzIn w K T H c m v A hu hk tv tb J q ∧ (∀ k, mineL K H m v k ∨ lzBet T c tv tb k → S k) ∧ ∀ k, S k → k < w.heap.size
/-- From w to w' only blocks of S have turned; now the object's are in S', which has no other old ones. -/
structure Stp (S S' : Nat → Prop) (w w' : World) : Prop where
  kept : Kept S w w'
  out : ∀ k, S' k → k < w.heap.size → S k
variable {w w' : World} {S S' R : Nat → Prop} {K T : Nat} {tv : Value} {tb : Option Nat} {J : List Joint} {q q' : Qm}
set_option maxRecDepth 100000 in
theorem Lz.kept (h : Lz w S K T tv tb J q) (hk : ∀ k, k < w.heap.size → S k → w'.heap[k]? = w.heap[k]?) (hs : w.heap.size ≤ w'.heap.size) : Lz w' S K T tv tb J q := by
  obtain ⟨H, c, m, v, A, hu, hk0, h1, h2, h3⟩ := h
  exact ⟨H, c, m, v, A, hu, hk0, h1.kept fun k a b => hk k a (h2 k b), h2, fun k a => Nat.lt_of_lt_of_le (h3 k a) hs⟩
set_option maxRecDepth 100000 in
theorem Lz.lt (h : Lz w S K T tv tb J q) : ∀ k, S k → k < w.heap.size := by obtain ⟨_, _, _, _, _, _, _, _, _, h3⟩ := h; exact h3
set_option maxRecDepth 100000 in
theorem Lz.grown (h : Lz w S K T tv tb J q) (g : Grown w w') : Lz w' S K T tv tb J q := h.kept (fun k a _ => g.below.block k a) g.below.size
set_option maxRecDepth 100000 in
theorem Lz.below (h : Lz w S K T tv tb J q) (g : Below w.heap.size w w') : Lz w' S K T tv tb J q := h.kept (fun k a _ => g.block k a) g.size
set_option maxRecDepth 100000 in
theorem Lz.sane (h : Lz w S K T tv tb J q) : SaneQ J q := by obtain ⟨_, _, _, _, _, _, _, h1, _, _⟩ := h; exact h1.sane
set_option maxRecDepth 100000 in
/-- Another object's blocks stay apart. -/
theorem Stp.apart (h : Stp S S' w w') (ha : ∀ k, S k → ¬ R k) (hR : ∀ k, R k → k < w.heap.size) : ∀ k, S' k → ¬ R k := fun k h1 h2 => ha k (h.out k h1 (hR k h2)) h2
set_option maxRecDepth 100000 in
theorem Stp.block (h : Stp S S' w w') (ha : ∀ k, S k → ¬ R k) : ∀ k, k < w.heap.size → R k → w'.heap[k]? = w.heap[k]? := fun k h1 h2 => h.kept.block k h1 fun h3 => ha k h3 h2
set_option maxRecDepth 100000 in
theorem Stp.after {w1 : World} (h : Stp S S' w1 w') (g : Below w.heap.size w w1) : Stp S S' w w' :=
  ⟨(Kept.of_below (S := S) g (Nat.le_refl _)).trans h.kept fun _ _ h => h, fun k h1 h2 => h.out k h1 (Nat.lt_of_lt_of_le h2 g.size)⟩
def LzStep (w : World) (S : Nat → Prop) (K T : Nat) (tv : Value) (tb : Option Nat) (J : List Joint) (q' : Qm) (w' : World) : Prop := ∃ S', Lz w' S' K T tv tb J q' ∧ Stp S S' w w'
set_option maxRecDepth 100000 in
theorem lz_step {H c m : Nat} {v : Value} (h2 : ∀ k, mineL K H m v k ∨ lzBet T c tv tb k → S k) (hr : LRet w K T H c m v tv tb J q' w') : LzStep w S K T tv tb J q' w' := by
  obtain ⟨H', c', v', A', hu', hk', b1, b2, b3⟩ := hr
  refine ⟨fun k => mineL K H' m v' k ∨ lzBet T c' tv tb k, ⟨H', c', m, v', A', hu', hk', b1, fun _ h => h, b1.lt⟩, ((Kept.refl S w).trans b2 fun k _ h => h2 k (.inl h)), fun k h1 hlt => ?_⟩
  rcases h1 with h1 | h1 | h1
  · rcases b3 k (.inl h1) hlt with h3 | h3
    · exact h2 k (.inl h3)
    · exact h2 k (.inr (.inr h3))
  · exact h2 k (.inr (.inl h1))
  · rcases b3 k (.inr h1) hlt with h3 | h3
    · exact h2 k (.inl h3)
    · exact h2 k (.inr (.inr h3))
set_option maxRecDepth 100000 in
theorem znew_any (T : Nat) (tv : Value) (tb : Option Nat) (J : List Joint) (w : World) (h : Stab w T tv tb J) (hJ : J.length ≤ 1000000) :
    Calls Tryz.prog 30 #[.pointer (some ⟨T, 0, none⟩)] w fun e w' => ∃ K S, e = .returned (.pointer (some ⟨K, 0, none⟩)) ∧ Lz w' S K T tv tb J newQ ∧ Below w.heap.size w w' ∧ ∀ k, S k → w.heap.size ≤ k ∨ mineT T tv tb k :=
  (lnew_any T tv tb J w h hJ).mono fun e w' hr => by
    obtain ⟨K, H, c, m, e1, h1, h2, h3⟩ := hr
    exact ⟨K, fun k => mineL K H m (.slice none 0 0) k ∨ lzBet T c tv tb k, e1, ⟨H, c, m, _, _, _, _, h1, fun _ h => h, h1.lt⟩, h2, fun k hk => by
      rcases hk with hk | hk | hk
      · exact .inl (h3 k (.inl hk))
      · exact .inr hk
      · exact .inl (h3 k (.inr hk))⟩
set_option maxRecDepth 100000 in
theorem zput_any (p : Int × Int) (n : Int) (h : Lz w S K T tv tb J q) (hp : FitsPr p) (h1 : thereOf J p.1 = true) (h2 : thereOf J p.2 = true) (hn2 : FitsN n) (hpu : q.pu ≤ 80000) :
    Calls Tryz.prog 52 #[.pointer (some ⟨K, 0, none⟩), .agg #[.int .i64 p.1, .int .i64 p.2], .int .i64 n] w fun e w' => e = .returned (.tuple #[]) ∧ LzStep w S K T tv tb J (putQ q p n) w' := by
  obtain ⟨H, c, m, v, A, hu, hk, a1, a2, a3⟩ := h
  exact (lput_any p n a1 hp h1 h2 hn2 hpu).mono fun e w' hr => ⟨hr.1, lz_step a2 hr.2⟩
def ZPopRet (w : World) (S : Nat → Prop) (K T : Nat) (tv : Value) (tb : Option Nat) (J : List Joint) (f : Int × Int → Int) (q : Qm) (e : Ending) (w' : World) : Prop :=
  ∃ o l n, Pops J f q.ents o l n ∧ e = .returned (popV o) ∧ LzStep w S K T tv tb J (popQ q o l n) w'
set_option maxRecDepth 100000 in
theorem zstats_any (h : Lz w S K T tv tb J q) : Calls Tryz.prog 37 #[.pointer (some ⟨K, 0, none⟩)] w fun e w' => e = .returned (statsV q.pu q.po q.pk q.re) ∧ Grown w w' := by
  obtain ⟨H, c, m, v, A, hu, hk, a1, a2, a3⟩ := h
  exact lstats_any a1
end Go.Proofs.YtnmacalbbmeedaaGreat
/- A queue's Pop, live being asked by a method that is handed on. -/
namespace Go.Proofs.YtnmacalbbmeedaaGreat
open Go.RowKit Go.Maps Go.Shelf
open Go.Sort (grow grow_empty grow_grow alloc_eq_grow heap_grow_old)

variable {w w' : World} {K T H c m : Nat} {v : Value} {A : List Ent} {hu hk : Int} {tv : Value} {tb : Option Nat} {J : List Joint} {q q' : Qm}
structure LiveM (g : Nat) (rv : Value) (f : Int × Int → Int) (E : World → Prop) (Bk : Nat → Prop) : Prop where
  enter : ∀ (args : Array Value) (w : World), (callFunc g args).run Tryz.prog w = .ok (.enter g args) w
  calls : ∀ (a b : Int) (w : World), FitsPr (a, b) → E w → Calls Tryz.prog g #[rv, .agg #[.int .i64 a, .int .i64 b]] w fun e w' => e = .returned (.int .i64 (f (a, b))) ∧ Grown w w'
  keep : ∀ (w w' : World), E w → w.heap.size ≤ w'.heap.size → (∀ k, k < w.heap.size → Bk k → w'.heap[k]? = w.heap[k]?) → E w'
  lt : ∀ (w : World), E w → ∀ k, Bk k → k < w.heap.size
set_option maxRecDepth 100000 in
theorem LiveM.grown {g : Nat} {rv : Value} {f : Int × Int → Int} {E : World → Prop} {Bk : Nat → Prop} (L : LiveM g rv f E Bk) (h : E w) (k : Grown w w') : E w' := L.keep w w' h k.below.size fun i hi _ => k.below.block i hi
set_option maxRecDepth 100000 in
theorem LiveM.kept {g : Nat} {rv : Value} {f : Int × Int → Int} {E : World → Prop} {Bk S : Nat → Prop} (L : LiveM g rv f E Bk) (h : E w) (k : Kept S w w') (hS : ∀ i, S i → ¬ Bk i) : E w' := L.keep w w' h k.size fun i hi hb => k.block i hi fun hs => hS i hs hb
set_option maxRecDepth 100000 in
theorem Tryz.isLiveM (g : Nat) (rv : Value) (w : World) : (binOp BinOp.eql 82 (Value.func (Fn.func g) #[rv] #[]) Value.nilFunc).run Tryz.prog w = .ok (.bool false) w := by kernel_rfl
set_option maxRecDepth 100000 in
set_option maxHeartbeats 4000000 in
theorem mpop_any {g : Nat} {rv : Value} {f : Int × Int → Int} {E : World → Prop} {Bk : Nat → Prop} (L : LiveM g rv f E Bk) (h : LzIn w K T H c m v A hu hk tv tb J q) (hE : E w) (hap : ∀ k, mineL K H m v k ∨ k = c → ¬ Bk k) (hpu : q.pu ≤ 80000) :
    Calls Tryz.prog 33 #[.pointer (some ⟨K, 0, none⟩), .func (.func g) #[rv] #[]] w (LPopRet w K T H c m v tv tb J f q) := by
  obtain ⟨Nr, hNr⟩ : ∃ Nr, w.heap.size = Nr := ⟨_, rfl⟩
  obtain ⟨wa, hwa⟩ : ∃ wa, w.alloc (.cells #[.int .i64 0, .int .i64 0, .int .i64 0] 79) = wa := ⟨_, rfl⟩
  have hga : Grown w wa := by rw [← hwa]; exact (Grown.refl w).alloc _
  have hla := Tryz.isLiveM g rv
  have hba : wa.heap[Nr]? = some (.cells #[.int .i64 0, .int .i64 0, .int .i64 0] 79 (0, 0)) := by rw [← hwa, ← hNr]; exact heap_alloc_new w _
  have HL := Lib.hid L; have HH := Lib.hid h; have HAP := Lib.hid hap; have HEE := Lib.hid hE
  have HNR := Lib.hid hNr
  have hst : PpS w K T H c m v tv tb J f q Nr q.ents 0 H c v A hu hk wa :=
    ⟨by simpa using h.grown hga, fun o l k hp => by simpa using hp, Kept.of_below hga.below (Nat.le_refl _), fun k hk1 _ => hk1, fun _ => .inr rfl, hba⟩
  have HST : Hid (PpRel w K T H c m v tv tb J f q Nr q.ents.length wa) := Lib.hid ⟨q.ents, 0, H, c, v, A, hu, hk, Nat.le_refl _, hst⟩
  have hmixed : Tryz.prog.follows .mixedOrders = true := by kernel_rfl
  clear h hap hE hga hba hst L
  go_enter Tryz.func33, Tryz.ntmps33
  go_wp2_with fail
  go_loopg [] q.ents.length (fun kx wr => PpRel w K T H c m v tv tb J f q Nr kx wr)
  case atStart => exact HST.out
  case round =>
    clear HST hwa
    obtain ⟨r, n, H1, c1, v1, A1, hu1, hk1, hrl, hps⟩ := hrel
    have HPS := Lib.hid hps; have HRL := Lib.hid hrl
    have cT := take_any hps.lz (by show q.pu ≤ 90000; omega)
    clear hps hrl
    go_wp2_with fail
    refine cT.mono ?_
    rintro e w2 hr
    rcases hr with ⟨hnil, rfl, hL2⟩ | ⟨x, r', hp, hb, rfl, hL2⟩
    · obtain ⟨H2, c2, v2, A2, hu2, hk2, ht⟩ := HPS.out.took hL2
      obtain rfl : r = [] := hnil
      have ht3 := ht.grown ((Grown.refl w2).alloc (.cells #[.int .i64 0, .int .i64 0, .int .i64 0] 79))
      have hbr3 := ht3.br
      have e0 : (w2.alloc (.cells #[.int .i64 0, .int .i64 0, .int .i64 0] 79)).cell? ⟨Nr, 0, none⟩ = some (.int .i64 0) := by rw [cell_of_row (w2.alloc (.cells #[.int .i64 0, .int .i64 0, .int .i64 0] 79)) Nr _ _ 79 (0, 0) hbr3]; rfl
      have f0 : (w2.alloc (.cells #[.int .i64 0, .int .i64 0, .int .i64 0] 79)).frozen? ⟨Nr, 0, none⟩ = false := Lib.frozen_of_heap hbr3 _
      have e1 : (w2.alloc (.cells #[.int .i64 0, .int .i64 0, .int .i64 0] 79)).cell? ⟨Nr, 1, none⟩ = some (.int .i64 0) := by rw [cell_of_row (w2.alloc (.cells #[.int .i64 0, .int .i64 0, .int .i64 0] 79)) Nr _ _ 79 (0, 0) hbr3]; rfl
      have f1 : (w2.alloc (.cells #[.int .i64 0, .int .i64 0, .int .i64 0] 79)).frozen? ⟨Nr, 1, none⟩ = false := Lib.frozen_of_heap hbr3 _
      have e2 : (w2.alloc (.cells #[.int .i64 0, .int .i64 0, .int .i64 0] 79)).cell? ⟨Nr, 2, none⟩ = some (.int .i64 0) := by rw [cell_of_row (w2.alloc (.cells #[.int .i64 0, .int .i64 0, .int .i64 0] 79)) Nr _ _ 79 (0, 0) hbr3]; rfl
      have f2 : (w2.alloc (.cells #[.int .i64 0, .int .i64 0, .int .i64 0] 79)).frozen? ⟨Nr, 2, none⟩ = false := Lib.frozen_of_heap hbr3 _
      have HT3 := Lib.hid ht3
      have HPO : Hid (LPopRet w K T H c m v tv tb J f q (.returned (.tuple #[.agg #[.int .i64 0, .int .i64 0, .int .i64 0], .bool false])) ((((w2.alloc (.cells #[.int .i64 0, .int .i64 0, .int .i64 0] 79)).setCell ⟨Nr, 0, none⟩ (.int .i64 0)).setCell ⟨Nr, 1, none⟩ (.int .i64 0)).setCell ⟨Nr, 2, none⟩ (.int .i64 0))) := Lib.hid
        ⟨.none, [], 0 + n, HPS.out.pops _ _ _ .none, rfl, by
          have := HT3.out.fin (Nat.le_of_eq HNR.out) (.int .i64 0) (.int .i64 0) (.int .i64 0)
          rw [Nat.zero_add]
          exact this⟩
      clear hL2 ht ht3 hbr3 cT
      unfold itemV
      go_wp2
      have h0 := heap_setCell_at (heap_setCell_at (heap_setCell_at HT3.out.br (i := 0) (.int .i64 0)) (i := 1) (.int .i64 0)) (i := 2) (.int .i64 0)
      have x0 := cell_of_row _ Nr 0 _ 79 (0, 0) h0
      have x1 := cell_of_row _ Nr 1 _ 79 (0, 0) h0
      have x2 := cell_of_row _ Nr 2 _ 79 (0, 0) h0
      refine bodyPost_ret (v := .tuple #[.agg #[.int .i64 0, .int .i64 0, .int .i64 0], .bool false]) (by rw [results_cell_tmp rfl]; simp [go_sem, x0, x1, x2]) rfl ?_
      exact HPO.out
    · obtain ⟨H2, c2, v2, A2, hu2, hk2, ht⟩ := HPS.out.took hL2
      obtain ⟨a, b, d⟩ := x
      obtain ⟨M, hM⟩ : ∃ M, w2.heap.size = M := ⟨_, rfl⟩
      obtain ⟨w3, hw3⟩ : ∃ w3, w2.alloc (.cells #[.int .i64 a, .int .i64 b, .int .i64 d] 79) = w3 := ⟨_, rfl⟩
      have hg23 : Grown w2 w3 := by rw [← hw3]; exact (Grown.refl w2).alloc _
      have hbm : w3.heap[M]? = some (.cells #[.int .i64 a, .int .i64 b, .int .i64 d] 79 (0, 0)) := by rw [← hw3, ← hM]; exact heap_alloc_new w2 _
      have ht3 := ht.grown hg23
      have hE3 : E w3 := HL.out.kept HEE.out ht3.kept fun k hk1 => HAP.out k (.inl hk1)
      have hxr : (a, b, d) ∈ r := hp.mem_iff.2 List.mem_cons_self
      have hfx := (HPS.out.lz.sane.ents (a, b, d) hxr).1
      have hfp : FitsPr (a, b) := ⟨hfx.1, hfx.2.1⟩
      have hMN : M ≠ Nr := fun e => by
        have := (Array.getElem?_eq_some_iff.1 ht.br).1
        omega
      have y0 : w3.cell? ⟨M, 0, none⟩ = some (.int .i64 a) := by rw [cell_of_row w3 M _ _ 79 (0, 0) hbm]; rfl
      have y1 : w3.cell? ⟨M, 1, none⟩ = some (.int .i64 b) := by rw [cell_of_row w3 M _ _ 79 (0, 0) hbm]; rfl
      have y2 : w3.cell? ⟨M, 2, none⟩ = some (.int .i64 d) := by rw [cell_of_row w3 M _ _ 79 (0, 0) hbm]; rfl
      have g0 := cell_grown_at y0
      have g1 := cell_grown_at y1
      have g2 := cell_grown_at y2
      have hcg : ∀ n os, Calls Tryz.prog g #[rv, .agg #[.int .i64 a, .int .i64 b]] (grow (w3.drewN n) os) fun e w' => e = .returned (.int .i64 (f (a, b))) ∧ ∃ q os', w' = grow ((grow (w3.drewN n) os).drewN q) os' := fun n os => HL.out.calls a b _ hfp (HL.out.grown hE3 (Grown.of w3 n os))
      have eg := HL.out.enter
      have HT3 := Lib.hid ht3; have HBM := Lib.hid hbm; have HP := Lib.hid hp; have HB := Lib.hid hb; have HFP := Lib.hid hfp
      have HMN := Lib.hid hMN
      clear hL2 ht ht3 hbm cT hE3 hxr hfx hfp hp hb hg23 hMN
      unfold itemV
      by_cases hf : f (a, b) = d
      · have HF := Lib.hid hf
        rw [hf] at hcg
        clear hf
        go_wp2_with fail
        refine wp_region_quiet_grown (by assumption) (by kernel_rfl) ?_
        repeat (first | go_big_quiet_skip | quiet_step (first | (go_at_fn g; refine Calls.grown_of (hcg _ _))))
        refine wpQuiet_nil ?_
        intro _ hw'
        obtain ⟨⟨nq, osq⟩, hw''⟩ := hw'
        subst hw''
        dsimp only
        obtain ⟨wq, hwq⟩ : ∃ wq, grow (w3.drewN nq) osq = wq := ⟨_, rfl⟩
        rw [hwq]
        have hgq : Grown w3 wq := by rw [← hwq]; exact Grown.of w3 nq osq
        have htq := HT3.out.grown hgq
        have hbq := (hgq.below.block M (Array.getElem?_eq_some_iff.1 HBM.out).1).trans HBM.out
        obtain ⟨_, _, d2, _, _, _, _⟩ := htq.lz.cells
        have u0 : wq.cell? ⟨M, 0, none⟩ = some (.int .i64 a) := by rw [cell_of_row wq M _ _ 79 (0, 0) hbq]; rfl
        have u1 : wq.cell? ⟨M, 1, none⟩ = some (.int .i64 b) := by rw [cell_of_row wq M _ _ 79 (0, 0) hbq]; rfl
        have u2 : wq.cell? ⟨M, 2, none⟩ = some (.int .i64 d) := by rw [cell_of_row wq M _ _ 79 (0, 0) hbq]; rfl
        obtain ⟨w4, hrun, hM4, hg4⟩ := drop_c (w := wq.drew) (m := some m) (L := q.known) (htq.lz.map.kept rfl) HFP.out
        unfold pv at hrun
        simp only at hrun
        have hd4 := htq.drew.drop hg4 hM4 (htq.lz.sane.del (a, b))
        have hmM : m ≠ M := fun e => by
          obtain ⟨es, cl, hmb⟩ := htq.lz.map.block
          rw [e, hbq] at hmb; cases hmb
        have hb4 := (hg4.block M (Array.getElem?_eq_some_iff.1 hbq).1 fun e => hmM (by cases e; rfl)).trans hbq
        have hbr4 := hd4.br
        have z0 : w4.cell? ⟨M, 0, none⟩ = some (.int .i64 a) := by rw [cell_of_row w4 M _ _ 79 (0, 0) hb4]; rfl
        have z1 : w4.cell? ⟨M, 1, none⟩ = some (.int .i64 b) := by rw [cell_of_row w4 M _ _ 79 (0, 0) hb4]; rfl
        have z2 : w4.cell? ⟨M, 2, none⟩ = some (.int .i64 d) := by rw [cell_of_row w4 M _ _ 79 (0, 0) hb4]; rfl
        have e0 : w4.cell? ⟨Nr, 0, none⟩ = some (.int .i64 0) := by rw [cell_of_row w4 Nr _ _ 79 (0, 0) hbr4]; rfl
        have f0 : w4.frozen? ⟨Nr, 0, none⟩ = false := Lib.frozen_of_heap hbr4 _
        have e1 : w4.cell? ⟨Nr, 1, none⟩ = some (.int .i64 0) := by rw [cell_of_row w4 Nr _ _ 79 (0, 0) hbr4]; rfl
        have f1 : w4.frozen? ⟨Nr, 1, none⟩ = false := Lib.frozen_of_heap hbr4 _
        have e2 : w4.cell? ⟨Nr, 2, none⟩ = some (.int .i64 0) := by rw [cell_of_row w4 Nr _ _ 79 (0, 0) hbr4]; rfl
        have f2 : w4.frozen? ⟨Nr, 2, none⟩ = false := Lib.frozen_of_heap hbr4 _
        have HPO : Hid (LPopRet w K T H c m v tv tb J f q (.returned (.tuple #[.agg #[.int .i64 a, .int .i64 b, .int .i64 d], .bool true])) (((w4.setCell ⟨Nr, 0, none⟩ (.int .i64 a)).setCell ⟨Nr, 1, none⟩ (.int .i64 b)).setCell ⟨Nr, 2, none⟩ (.int .i64 d))) := Lib.hid
          ⟨.some (a, b, d), r', 1 + n, HPS.out.pops _ _ _ (.hit HP.out HB.out HF.out), rfl, by
            have h1 := hd4.fin (Nat.le_of_eq HNR.out) (.int .i64 a) (.int .i64 b) (.int .i64 d)
            have h2 : q.po + (n : Int) + 1 = q.po + ((1 + n : Nat) : Int) := by omega
            simp only [h2] at h1
            exact h1⟩
        have HBR4 := Lib.hid hbr4
        clear hwq hgq htq hbq hM4 hg4 hd4 hmM hb4 hbr4
        go_wp2_with fail
        go_region
        go_wp2
        have h0 := heap_setCell_at (heap_setCell_at (heap_setCell_at HBR4.out (i := 0) (.int .i64 a)) (i := 1) (.int .i64 b)) (i := 2) (.int .i64 d)
        have x0 := cell_of_row _ Nr 0 _ 79 (0, 0) h0
        have x1 := cell_of_row _ Nr 1 _ 79 (0, 0) h0
        have x2 := cell_of_row _ Nr 2 _ 79 (0, 0) h0
        refine bodyPost_ret (v := .tuple #[.agg #[.int .i64 a, .int .i64 b, .int .i64 d], .bool true]) (by rw [results_cell_tmp rfl]; simp [go_sem, x0, x1, x2]) rfl ?_
        exact HPO.out
      · have HF := Lib.hid hf
        obtain ⟨fv, hfv⟩ : ∃ fv, f (a, b) = fv := ⟨_, rfl⟩
        rw [hfv] at hcg hf
        have hfe : (fv == d) = false := by simp [hf]
        clear hfv
        go_wp2_with fail
        refine wp_region_quiet_grown (by assumption) (by kernel_rfl) ?_
        repeat (first | go_big_quiet_skip | quiet_step (first | (go_at_fn g; refine Calls.grown_of (hcg _ _))))
        refine wpQuiet_nil ?_
        intro _ hw'
        obtain ⟨⟨nq, osq⟩, hw''⟩ := hw'
        subst hw''
        dsimp only
        obtain ⟨wq, hwq⟩ : ∃ wq, grow (w3.drewN nq) osq = wq := ⟨_, rfl⟩
        rw [hwq]
        have hgq : Grown w3 wq := by rw [← hwq]; exact Grown.of w3 nq osq
        have HTQ := Lib.hid (HT3.out.grown hgq)
        clear hwq hgq
        go_wp2
        go_roundg r'.length
        case rel =>
          refine ⟨r', n + 1, H2, c2, v2, A2, hu2, hk2, Nat.le_refl _, ?_, fun o l k hk1 => ?_, HTQ.out.kept, HTQ.out.out, HTQ.out.outc, HTQ.out.br⟩
          · have h1 := HTQ.out.lz
            have h2 : q.po + (n : Int) + 1 = q.po + ((n + 1 : Nat) : Int) := by omega
            simp only [h2] at h1
            exact h1
          · have h1 := HPS.out.pops o l (k + 1) (.miss HP.out HB.out HF.out hk1)
            rw [show k + (n + 1) = k + 1 + n by omega]
            exact h1
        case measure =>
          have h1 := HP.out.length_eq
          have h2 := HRL.out
          rw [List.length_cons] at h1
          omega
set_option maxRecDepth 100000 in
theorem mzpop_any {g : Nat} {rv : Value} {f : Int × Int → Int} {E : World → Prop} {Bk : Nat → Prop} {S : Nat → Prop} (L : LiveM g rv f E Bk) (h : Lz w S K T tv tb J q) (hE : E w) (hap : ∀ k, S k → ¬ Bk k) (hpu : q.pu ≤ 80000) :
    Calls Tryz.prog 33 #[.pointer (some ⟨K, 0, none⟩), .func (.func g) #[rv] #[]] w (ZPopRet w S K T tv tb J f q) := by
  obtain ⟨H, c, m, v, A, hu, hk, a1, a2, a3⟩ := h
  exact (mpop_any L a1 hE (fun k hk1 => hap k (a2 k (by rcases hk1 with h | h; exact .inl h; exact .inr (.inr h)))) hpu).mono fun e w' hr => by
    obtain ⟨o, l, n, r1, r2, r3⟩ := hr
    exact ⟨o, l, n, r1, r2, lz_step a2 r3⟩
end Go.Proofs.YtnmacalbbmeedaaGreat
/- The index's Count as what is live. -/
namespace Go.Proofs.YtnmacalbbmeedaaGreat
open Go.RowKit Go.Maps

set_option maxRecDepth 100000 in
set_option maxHeartbeats 2000000 in
theorem xcountG_any (K N : Nat) (lab : Nat → Lab) (V : Int × Int → Value) (M : Mdl) (p q : Int) (w : World) (h : IxM w lab K N V M) (hp : FitsPr (p, q)) :
    Calls Tryz.prog 34 #[.pointer (some ⟨K, 0, none⟩), .agg #[.int .i64 p, .int .i64 q]] w fun e w' => e = .returned (.int .i64 (getC M.cnt (p, q))) ∧ Grown w w' := by
  obtain ⟨wv, Kc, mc, b, E, h⟩ := h
  obtain ⟨c, hc⟩ : ∃ c, getC M.cnt (p, q) = c := ⟨_, rfl⟩
  rw [hc]
  obtain ⟨w1, hw1⟩ : ∃ w1, w1 = w.alloc (.cells #[.int .i64 p, .int .i64 q] 77) := ⟨_, rfl⟩
  obtain ⟨bx, hbx⟩ : ∃ bx, w.heap.size = bx := ⟨_, rfl⟩
  have B1 : Below w.heap.size w w1 := by rw [hw1]; exact (Below.refl _ w).alloc (Nat.le_refl _) _
  have hs1 : w1.heap.size = bx + 1 := by rw [hw1, ← hbx]; simp
  have h1 := h.below B1
  have HC : Hid (∀ W', Below w1.heap.size w1 W' → W'.cell? ⟨bx, 0, none⟩ = some (.int .i64 p) ∧ W'.cell? ⟨bx, 1, none⟩ = some (.int .i64 q) ∧ W'.cell? ⟨K, 1, none⟩ = some (.pointer (some ⟨Kc, 0, none⟩))) := Lib.hid (fun W' hW => by
    refine ⟨(hW.cell (show bx < w1.heap.size by omega)).trans ?_, (hW.cell (show bx < w1.heap.size by omega)).trans ?_, (hW.cell h1.ltK).trans h1.cells.2.1⟩
    · rw [hw1, ← hbx]; simp
    · rw [hw1, ← hbx]; simp)
  have HG : Hid (Calls Tryz.prog 55 #[.pointer (some ⟨Kc, 0, none⟩), .agg #[.int .i64 p, .int .i64 q]] w1.drew fun e w' => e = .returned (.int .i64 c) ∧ Grown w1 w') := Lib.hid (by
    refine (dget_any Kc mc M.cnt p q w1.drew (h1.drew).cts hp).mono ?_
    rintro e w' ⟨rfl, rfl⟩
    exact ⟨by rw [hc], ((((Grown.refl w1).drewN 1).alloc _).drewN 1)⟩)
  have HB1 : Hid (Grown w w1) := Lib.hid (by rw [hw1]; exact (Grown.refl w).alloc _)
  have HZ1 := Lib.hid (HC.out w1 (Below.refl _ _))
  have HZ2 := Lib.hid (HC.out w1.drew (Below.refl _ _).drew)
  have hw1' := hw1.symm
  clear h h1 B1 hw1 hs1 hc
  go_enter Tryz.func34, Tryz.ntmps34
  go_wp2_with fail
  go_region_held3 (fun w' => w'.cell? ⟨bx, 0, none⟩ = some (.int .i64 p) ∧ w'.cell? ⟨bx, 1, none⟩ = some (.int .i64 q) ∧ w'.cell? ⟨K, 1, none⟩ = some (.pointer (some ⟨Kc, 0, none⟩))) (first | exact HZ1.out | exact HZ2.out | exact HZ3.out) (first
    | (go_at_call 55
       with_reducible refine HG.out.mono ?_
       rintro e w3 ⟨rfl, hb3⟩
       have HZ3 := Lib.hid (HC.out w3 hb3.below)
       have HB3 := Lib.hid (HB1.out.trans hb3)
       clear hb3))
  all_goals (go_wp2_with fail)
  all_goals go_ret
  all_goals exact ⟨rfl, HB3.out⟩
/-- The blocks of an index. -/
def IxBk (lab : Nat → Lab) (k : Nat) : Prop := lab k ≠ .no
set_option maxRecDepth 100000 in
theorem ix_live (K N : Nat) (lab : Nat → Lab) (V : Int × Int → Value) (M : Mdl) : LiveM 34 (.pointer (some ⟨K, 0, none⟩)) (fun p => getC M.cnt p) (fun w => IxM w lab K N V M) (IxBk lab) where
  enter := enters_of Tryz.func34 (by kernel_rfl) rfl
  calls := fun a b w hp h => xcountG_any K N lab V M a b w h hp
  keep := fun w w' h hs hk => by
    obtain ⟨wv, Kc, mc, b, E, h⟩ := h
    exact ⟨wv, Kc, mc, b, E, h.turn (fun i hi hm => hk i hi hm) hs⟩
  lt := fun w h k hk => Classical.byContradiction fun e => hk (h.fresh (by omega))
end Go.Proofs.YtnmacalbbmeedaaGreat
