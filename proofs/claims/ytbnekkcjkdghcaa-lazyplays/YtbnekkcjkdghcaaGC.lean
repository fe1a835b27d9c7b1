/- Texts in one: LaP, ArgL, LaC, LaA. -/
import Derived.Test.YtbnekkcjkdghcaaGD
import Derived.Lib.SmallJoins
import Derived.Test.YtbnekkcjkdghcaaCnAdd
/- A queue, what is live, and one more object, side by side; the boxes of a law beside them. -/
namespace Go.Proofs.Ytbnekkcjkdghcaa
open Go.RowKit Go.Maps Go.Shelf
open Go.Sort (grow grow_empty grow_grow alloc_eq_grow heap_grow_old)

/-- What is live: a count of the document's in block K, which box Nl points to. -/
structure LvIn (w : World) (K Nl : Nat) (v u : Value) (L : Cn) : Prop where
  cnt : Rco w 0 K 0 #[v, u] 34 v u L
  box : w.heap[Nl]? = some (.cells #[.pointer (some ⟨K, 0, none⟩)] 39 (0, 0))
  good : GoodC L
  few : L.length ≤ 1000
abbrev mineV (K Nl : Nat) (v u : Value) (k : Nat) : Prop := dmineR K v u k ∨ k = Nl
variable {w w' wr w1 : World} {K Kl Nl T : Nat} {v u : Value} {L L' : Cn} {tv : Value} {tb : Option Nat} {J : List Joint} {q q' : Qm} {S S' : Nat → Prop}
set_option maxRecDepth 100000 in
theorem LvIn.lt (h : LvIn w K Nl v u L) : ∀ k, mineV K Nl v u k → k < w.heap.size := by
  rintro k (hk | rfl)
  · exact (h.cnt.lt k hk).2
  · exact (Array.getElem?_eq_some_iff.1 h.box).1
set_option maxRecDepth 100000 in
theorem LvIn.kept (h : LvIn w K Nl v u L) (hk : ∀ k, k < w.heap.size → mineV K Nl v u k → w'.heap[k]? = w.heap[k]?) : LvIn w' K Nl v u L :=
  ⟨h.cnt.kept fun k h1 h2 => hk k h1 (.inl h2), (hk Nl (h.lt Nl (.inr rfl)) (.inr rfl)).trans h.box, h.good, h.few⟩
def Lv (w : World) (S : Nat → Prop) (K Nl : Nat) (L : Cn) : Prop := ∃ v u, LvIn w K Nl v u L ∧ (∀ k, mineV K Nl v u k → S k) ∧ ∀ k, S k → k < w.heap.size
set_option maxRecDepth 100000 in
theorem Lv.kept (h : Lv w S K Nl L) (hk : ∀ k, k < w.heap.size → S k → w'.heap[k]? = w.heap[k]?) (hs : w.heap.size ≤ w'.heap.size) : Lv w' S K Nl L := by
  obtain ⟨v, u, h1, h2, h3⟩ := h
  exact ⟨v, u, h1.kept fun k a b => hk k a (h2 k b), h2, fun k a => Nat.lt_of_lt_of_le (h3 k a) hs⟩
/-- One more object: what is said of it stays where its blocks stay. -/
structure Ob where
  P : World → (Nat → Prop) → Prop
  lt : ∀ w S, P w S → ∀ k, S k → k < w.heap.size
  kept : ∀ w w' S, P w S → (∀ k, k < w.heap.size → S k → w'.heap[k]? = w.heap[k]?) → w.heap.size ≤ w'.heap.size → P w' S
def Ob.none : Ob := ⟨fun _ S => ∀ k, ¬ S k, fun _ _ h k hk => (h k hk).elim, fun _ _ _ h _ _ => h⟩
/-- All of them; the blocks of Bx are boxes of the law's own; nothing below w's size has turned. -/
structure LaIn (w : World) (Bx : List (Nat × Obj)) (X : Ob) (K T : Nat) (tv : Value) (tb : Option Nat) (J : List Joint) (Kl Nl : Nat) (q : Qm) (L : Cn) (Sq Sl Sx : Nat → Prop) (wr : World) : Prop where
  lz : Lz wr Sq K T tv tb J q
  lv : Lv wr Sl Kl Nl L
  x : X.P wr Sx
  ql : ∀ k, Sq k → ¬ Sl k
  qx : ∀ k, Sq k → ¬ Sx k
  lx : ∀ k, Sl k → ¬ Sx k
  base : ∀ k, Sq k ∨ Sl k ∨ Sx k → w.heap.size ≤ k
  bx : ∀ b ∈ Bx, wr.heap[b.1]? = some b.2 ∧ w.heap.size ≤ b.1 ∧ ¬ (Sq b.1 ∨ Sl b.1 ∨ Sx b.1)
  bel : Below w.heap.size w wr
def LaS (w : World) (Bx : List (Nat × Obj)) (X : Ob) (K T : Nat) (tv : Value) (tb : Option Nat) (J : List Joint) (Kl Nl : Nat) (q : Qm) (L : Cn) (wr : World) : Prop := ∃ Sq Sl Sx, LaIn w Bx X K T tv tb J Kl Nl q L Sq Sl Sx wr
variable {Bx : List (Nat × Obj)} {X X' : Ob} {Sq Sl Sx Sq' Sl' Sx' : Nat → Prop}
set_option maxRecDepth 100000 in
theorem LaIn.grown (h : LaIn w Bx X K T tv tb J Kl Nl q L Sq Sl Sx wr) (g : Grown wr w') : LaIn w Bx X K T tv tb J Kl Nl q L Sq Sl Sx w' :=
  ⟨h.lz.grown g, h.lv.kept (fun k a _ => g.below.block k a) g.below.size, X.kept _ _ _ h.x (fun k a _ => g.below.block k a) g.below.size, h.ql, h.qx, h.lx, h.base,
    fun b hb => ⟨(g.below.block _ (Array.getElem?_eq_some_iff.1 (h.bx b hb).1).1).trans (h.bx b hb).1, (h.bx b hb).2⟩, h.bel.trans (g.below.mono h.bel.size)⟩
set_option maxRecDepth 100000 in
theorem LaS.grown (h : LaS w Bx X K T tv tb J Kl Nl q L wr) (g : Grown wr w') : LaS w Bx X K T tv tb J Kl Nl q L w' := by
  obtain ⟨a, b, c, h⟩ := h
  exact ⟨a, b, c, h.grown g⟩
set_option maxRecDepth 100000 in
theorem LaS.drew (h : LaS w Bx X K T tv tb J Kl Nl q L wr) : LaS w Bx X K T tv tb J Kl Nl q L wr.drew := h.grown ((Grown.refl wr).drewN 1)
set_option maxRecDepth 100000 in
theorem LaS.tail {b : Nat × Obj} (h : LaS w (b :: Bx) X K T tv tb J Kl Nl q L wr) : LaS w Bx X K T tv tb J Kl Nl q L wr := by
  obtain ⟨a, c, d, h⟩ := h
  exact ⟨a, c, d, ⟨h.lz, h.lv, h.x, h.ql, h.qx, h.lx, h.base, fun b hb => h.bx b (List.mem_cons_of_mem _ hb), h.bel⟩⟩
set_option maxRecDepth 100000 in
theorem LaS.sub {By : List (Nat × Obj)} (h : LaS w Bx X K T tv tb J Kl Nl q L wr) (hs : ∀ b ∈ By, b ∈ Bx) : LaS w By X K T tv tb J Kl Nl q L wr := by
  obtain ⟨a, c, d, h⟩ := h
  exact ⟨a, c, d, ⟨h.lz, h.lv, h.x, h.ql, h.qx, h.lx, h.base, fun b hb => h.bx b (hs b hb), h.bel⟩⟩
set_option maxRecDepth 100000 in
/-- A new box. -/
theorem LaS.box (h : LaS w Bx X K T tv tb J Kl Nl q L wr) (cs : Array Value) (t : TypeId) : LaS w ((wr.heap.size, .cells cs t (0, 0)) :: Bx) X K T tv tb J Kl Nl q L (wr.alloc (.cells cs t)) := by
  obtain ⟨a, c, d, h0⟩ := h
  have h := h0.grown ((Grown.refl wr).alloc (.cells cs t))
  refine ⟨a, c, d, ⟨h.lz, h.lv, h.x, h.ql, h.qx, h.lx, h.base, fun b hb => ?_, h.bel⟩⟩
  rcases List.mem_cons.1 hb with rfl | hb
  · refine ⟨heap_alloc_new wr _, h0.bel.size, fun hk => ?_⟩
    rcases hk with hk | hk | hk
    · exact Nat.lt_irrefl _ (h0.lz.lt _ hk)
    · obtain ⟨_, _, _, _, h3⟩ := h0.lv
      exact Nat.lt_irrefl _ (h3 _ hk)
    · exact Nat.lt_irrefl _ (X.lt _ _ h0.x _ hk)
  · exact h.bx b hb
set_option maxRecDepth 100000 in
theorem LaS.at (h : LaS w Bx X K T tv tb J Kl Nl q L wr) {k : Nat} {o : Obj} (hm : (k, o) ∈ Bx) : wr.heap[k]? = some o := by
  obtain ⟨_, _, _, h⟩ := h
  exact (h.bx _ hm).1
set_option maxRecDepth 100000 in
theorem LaS.bel (h : LaS w Bx X K T tv tb J Kl Nl q L wr) : Below w.heap.size w wr := by obtain ⟨_, _, _, h⟩ := h; exact h.bel
set_option maxRecDepth 100000 in
theorem LaS.sane (h : LaS w Bx X K T tv tb J Kl Nl q L wr) : SaneQ J q := by obtain ⟨_, _, _, h⟩ := h; exact h.lz.sane
set_option maxRecDepth 100000 in
theorem LaS.live (h : LaS w Bx X K T tv tb J Kl Nl q L wr) : wr.cell? ⟨Nl, 0, none⟩ = some (.pointer (some ⟨Kl, 0, none⟩)) := by
  obtain ⟨_, _, _, h⟩ := h
  obtain ⟨_, _, h1, _, _⟩ := h.lv
  rw [cell_of_row wr Nl 0 _ 39 (0, 0) h1.box]; rfl
set_option maxRecDepth 100000 in
theorem LaS.good (h : LaS w Bx X K T tv tb J Kl Nl q L wr) : GoodC L ∧ L.length ≤ 1000 := by
  obtain ⟨_, _, _, h⟩ := h
  obtain ⟨_, _, h1, _, _⟩ := h.lv
  exact ⟨h1.good, h1.few⟩
set_option maxRecDepth 100000 in
/-- A box is written over; the boxes' numbers are unlike. -/
theorem LaS.set (h : LaS w Bx X K T tv tb J Kl Nl q L wr) {k i : Nat} {cs : Array Value} {t : TypeId} {By : List (Nat × Obj)} (x : Value) (hm : (k, .cells cs t (0, 0)) ∈ Bx) (hs : ∀ b ∈ By, b ∈ Bx ∧ b.1 ≠ k) : LaS w ((k, .cells (cs.setIfInBounds i x) t (0, 0)) :: By) X K T tv tb J Kl Nl q L (wr.setCell ⟨k, i, none⟩ x) := by
  obtain ⟨a, c, d, h⟩ := h
  obtain ⟨h1, h2, h3⟩ := h.bx _ hm
  have hne : ∀ j, j ≠ k → (wr.setCell ⟨k, i, none⟩ x).heap[j]? = wr.heap[j]? := fun j hj => Below.heap_setCell _ ⟨k, i, none⟩ _ j hj
  have hsz : wr.heap.size ≤ (wr.setCell ⟨k, i, none⟩ x).heap.size := by simp
  refine ⟨a, c, d, ⟨h.lz.kept (fun j _ hj => hne j fun e => h3 (.inl (e ▸ hj))) hsz, h.lv.kept (fun j _ hj => hne j fun e => h3 (.inr (.inl (e ▸ hj)))) hsz, X.kept _ _ _ h.x (fun j _ hj => hne j fun e => h3 (.inr (.inr (e ▸ hj)))) hsz, h.ql, h.qx, h.lx, h.base, fun b hb => ?_, h.bel.setCell (p := ⟨k, i, none⟩) h2 x⟩⟩
  rcases List.mem_cons.1 hb with rfl | hb
  · exact ⟨heap_setCell_at h1 x, h2, h3⟩
  · obtain ⟨h4, h5⟩ := hs b hb
    exact ⟨(hne _ h5).trans (h.bx b h4).1, (h.bx b h4).2⟩
set_option maxRecDepth 100000 in
theorem Stp.below (h : Stp S S' wr w') (hb : ∀ k, S k → w.heap.size ≤ k) (hbel : Below w.heap.size w wr) : Below w.heap.size w w' := hbel.trans (h.kept.below hbel.size hb)
set_option maxRecDepth 100000 in
theorem Stp.base (h : Stp S S' wr w') (hb : ∀ k, S k → w.heap.size ≤ k) (hs : w.heap.size ≤ wr.heap.size) : ∀ k, S' k → w.heap.size ≤ k := fun k hk => by
  by_cases hlt : k < wr.heap.size
  · exact hb k (h.out k hk hlt)
  · omega
set_option maxRecDepth 100000 in
theorem boxes_step (h : ∀ b ∈ Bx, wr.heap[b.1]? = some b.2 ∧ w.heap.size ≤ b.1 ∧ ¬ S b.1) (hs : Stp S S' wr w') : ∀ b ∈ Bx, w'.heap[b.1]? = some b.2 ∧ ¬ S' b.1 := fun b hb => by
  obtain ⟨h1, _, h3⟩ := h b hb
  have hlt := (Array.getElem?_eq_some_iff.1 h1).1
  exact ⟨(hs.kept.block _ hlt h3).trans h1, fun hk => h3 (hs.out _ hk hlt)⟩
set_option maxRecDepth 100000 in
/-- The queue has turned. -/
theorem LaIn.turnQ (h : LaIn w Bx X K T tv tb J Kl Nl q L Sq Sl Sx wr) (hz : Lz w' Sq' K T tv tb J q') (hs : Stp Sq Sq' wr w') : LaIn w Bx X K T tv tb J Kl Nl q' L Sq' Sl Sx w' := by
  have hl : ∀ k, Sl k → k < wr.heap.size := by obtain ⟨_, _, _, _, h3⟩ := h.lv; exact h3
  refine ⟨hz, h.lv.kept (hs.block (R := Sl) h.ql) hs.kept.size, X.kept _ _ _ h.x (hs.block (R := Sx) h.qx) hs.kept.size, hs.apart h.ql hl, hs.apart h.qx (X.lt _ _ h.x), h.lx, fun k hk => ?_, fun b hb => ?_, hs.below (fun k hk => h.base k (.inl hk)) h.bel⟩
  · rcases hk with hk | hk
    · exact hs.base (fun k hk => h.base k (.inl hk)) h.bel.size k hk
    · exact h.base k (.inr hk)
  · have h1 := boxes_step (w := w) (S := Sq) (fun b hb => ⟨(h.bx b hb).1, (h.bx b hb).2.1, fun hk => (h.bx b hb).2.2 (.inl hk)⟩) hs b hb
    exact ⟨h1.1, (h.bx b hb).2.1, fun hk => hk.elim h1.2 fun hk => (h.bx b hb).2.2 (.inr hk)⟩
set_option maxRecDepth 100000 in
/-- What is live has turned. -/
theorem LaIn.turnL (h : LaIn w Bx X K T tv tb J Kl Nl q L Sq Sl Sx wr) (hz : Lv w' Sl' Kl Nl L') (hs : Stp Sl Sl' wr w') : LaIn w Bx X K T tv tb J Kl Nl q L' Sq Sl' Sx w' := by
  refine ⟨h.lz.kept (hs.block (R := Sq) fun k h1 h2 => h.ql k h2 h1) hs.kept.size, hz, X.kept _ _ _ h.x (hs.block (R := Sx) h.lx) hs.kept.size, fun k h1 h2 => hs.apart (R := Sq) (fun k h1 h2 => h.ql k h2 h1) h.lz.lt k h2 h1, h.qx, hs.apart h.lx (X.lt _ _ h.x), fun k hk => ?_, fun b hb => ?_, hs.below (fun k hk => h.base k (.inr (.inl hk))) h.bel⟩
  · rcases hk with hk | hk | hk
    · exact h.base k (.inl hk)
    · exact hs.base (fun k hk => h.base k (.inr (.inl hk))) h.bel.size k hk
    · exact h.base k (.inr (.inr hk))
  · have h1 := boxes_step (w := w) (S := Sl) (fun b hb => ⟨(h.bx b hb).1, (h.bx b hb).2.1, fun hk => (h.bx b hb).2.2 (.inr (.inl hk))⟩) hs b hb
    exact ⟨h1.1, (h.bx b hb).2.1, fun hk => hk.elim (fun hk => (h.bx b hb).2.2 (.inl hk)) fun hk => hk.elim h1.2 fun hk => (h.bx b hb).2.2 (.inr (.inr hk))⟩
set_option maxRecDepth 100000 in
/-- The other object has turned. -/
theorem LaIn.turnX (h : LaIn w Bx X K T tv tb J Kl Nl q L Sq Sl Sx wr) (hz : X'.P w' Sx') (hs : Stp Sx Sx' wr w') : LaIn w Bx X' K T tv tb J Kl Nl q L Sq Sl Sx' w' := by
  have hl : ∀ k, Sl k → k < wr.heap.size := by obtain ⟨_, _, _, _, h3⟩ := h.lv; exact h3
  refine ⟨h.lz.kept (hs.block (R := Sq) fun k h1 h2 => h.qx k h2 h1) hs.kept.size, h.lv.kept (hs.block (R := Sl) fun k h1 h2 => h.lx k h2 h1) hs.kept.size, hz, h.ql, fun k h1 h2 => hs.apart (R := Sq) (fun k h1 h2 => h.qx k h2 h1) h.lz.lt k h2 h1, fun k h1 h2 => hs.apart (R := Sl) (fun k h1 h2 => h.lx k h2 h1) hl k h2 h1, fun k hk => ?_, fun b hb => ?_, hs.below (fun k hk => h.base k (.inr (.inr hk))) h.bel⟩
  · rcases hk with hk | hk | hk
    · exact h.base k (.inl hk)
    · exact h.base k (.inr (.inl hk))
    · exact hs.base (fun k hk => h.base k (.inr (.inr hk))) h.bel.size k hk
  · have h1 := boxes_step (w := w) (S := Sx) (fun b hb => ⟨(h.bx b hb).1, (h.bx b hb).2.1, fun hk => (h.bx b hb).2.2 (.inr (.inr hk))⟩) hs b hb
    exact ⟨h1.1, (h.bx b hb).2.1, fun hk => hk.elim (fun hk => (h.bx b hb).2.2 (.inl hk)) fun hk => hk.elim (fun hk => (h.bx b hb).2.2 (.inr (.inl hk))) h1.2⟩
end Go.Proofs.Ytbnekkcjkdghcaa
/- The law's deeds as arguments. -/
namespace Go.Proofs.Ytbnekkcjkdghcaa
open Go.ChangeShapes Go.WideShapes Go.RowKit Go.Maps

/-- Kind, pair, number. -/
abbrev DeedL := Int × (Int × Int) × Int
def ldeedE : Elt DeedL where
  ty := 43
  sl := 22
  n := 4
  bytes := 32
  zero := .agg #[.int .i64 0, .int .i64 0, .int .i64 0, .int .i64 0]
  enc := fun x => [.int .i64 x.1, .int .i64 x.2.1.1, .int .i64 x.2.1.2, .int .i64 x.2.2]
  under := Try.underlying22
  info := by kernel_rfl
  pos := by decide
  small := by decide
  zlen := by kernel_rfl
  len := fun _ => rfl
  one := fun x u hu => by
    simp only [List.mem_cons, List.not_mem_nil, or_false] at hu
    rcases hu with rfl | rfl | rfl | rfl <;> rfl
def FitsDl (x : DeedL) : Prop := FitsZ x.1 ∧ FitsPr x.2.1 ∧ FitsZ x.2.2
set_option maxRecDepth 100000 in
theorem lcell_add (ad : Addr) (n j : Nat) (hj : 0 < j) : ad.add (n + j) = ⟨(ad.add n).block, (ad.add n).off + j, none⟩ := by
  unfold Addr.add
  by_cases h : n = 0
  · subst h; simp; omega
  · have : ¬ n + j = 0 := by omega
    simp [h, Nat.add_assoc]
set_option maxRecDepth 100000 in
theorem ldeeds_at {w wr : World} {L : List DeedL} {ad : Addr} {n cap : Nat} (h : eltsAt ldeedE w (.slice (some ad) n cap) L) (hb : Below w.heap.size w wr) {k : Nat} (hk : k < L.length) :
    wr.cell? (ad.add (k * 4)) = some (.int .i64 L[k].1) ∧ wr.cell? ⟨(ad.add (k * 4)).block, (ad.add (k * 4)).off + 1, none⟩ = some (.int .i64 L[k].2.1.1) ∧ wr.cell? ⟨(ad.add (k * 4)).block, (ad.add (k * 4)).off + 2, none⟩ = some (.int .i64 L[k].2.1.2) ∧ wr.cell? ⟨(ad.add (k * 4)).block, (ad.add (k * 4)).off + 3, none⟩ = some (.int .i64 L[k].2.2) := by
  have := elts_at h hb hk
  refine ⟨this 0 _ rfl, ?_, ?_, ?_⟩
  · rw [← lcell_add ad (k * 4) 1 (by omega)]; exact this 1 _ rfl
  · rw [← lcell_add ad (k * 4) 2 (by omega)]; exact this 2 _ rfl
  · rw [← lcell_add ad (k * 4) 3 (by omega)]; exact this 3 _ rfl
set_option maxRecDepth 100000 in
theorem Try.cellsDeedL : Try.prog.cellsOf 43 = 4 := by kernel_rfl
set_option maxRecDepth 100000 in
theorem pair_read {H : Type} {enc : TypeId × Value → H} {W : World} {base fuel : Nat} {spare : Nat → Bool} {held : Bool} {v0 v1 : Value} {x : DataW H × List MemPlace} (h : DataW.trod enc Try.prog W base spare held fuel 41 [v0, v1] = some x) :
    ∃ q : Int × Int, v0 = .int .i64 q.1 ∧ v1 = .int .i64 q.2 ∧ FitsPr q := by
  obtain ⟨xs, k, hk, hxy, _, hxl, hf⟩ := DataW.trod_struct Try.underlying41 h
  have g0 := hf 0 _ rfl
  have g1 := hf 1 _ rfl
  obtain ⟨y0, hy0⟩ : ∃ y0, xs[0]? = some y0 := ⟨xs[0]'(by rw [hxl]; decide), List.getElem?_eq_getElem _⟩
  obtain ⟨y1, hy1⟩ : ∃ y1, xs[1]? = some y1 := ⟨xs[1]'(by rw [hxl]; decide), List.getElem?_eq_getElem _⟩
  rw [hy0] at g0
  rw [hy1] at g1
  simp [Try.cells3] at g0 g1
  obtain ⟨a, e0, _, ha⟩ := DataW.trod_int Try.underlying3 g0
  obtain ⟨b, e1, _, hb⟩ := DataW.trod_int Try.underlying3 g1
  simp only [List.cons.injEq, and_true] at e0 e1
  exact ⟨(a, b), e0, e1, bounds_i64 ha, bounds_i64 hb⟩
set_option maxRecDepth 100000 in
theorem ldeed_read {H : Type} {enc : TypeId × Value → H} {W : World} {base fuel : Nat} {spare : Nat → Bool} {held : Bool} {v0 v1 v2 v3 : Value} {x : DataW H × List MemPlace} (h : DataW.trod enc Try.prog W base spare held fuel 43 [v0, v1, v2, v3] = some x) :
    ∃ q : DeedL, v0 = .int .i64 q.1 ∧ v1 = .int .i64 q.2.1.1 ∧ v2 = .int .i64 q.2.1.2 ∧ v3 = .int .i64 q.2.2 ∧ FitsDl q := by
  obtain ⟨xs, k, hk, hxy, _, hxl, hf⟩ := DataW.trod_struct Try.underlying43 h
  have g0 := hf 0 _ rfl
  have g1 := hf 1 _ rfl
  have g2 := hf 2 _ rfl
  obtain ⟨y0, hy0⟩ : ∃ y0, xs[0]? = some y0 := ⟨xs[0]'(by rw [hxl]; decide), List.getElem?_eq_getElem _⟩
  obtain ⟨y1, hy1⟩ : ∃ y1, xs[1]? = some y1 := ⟨xs[1]'(by rw [hxl]; decide), List.getElem?_eq_getElem _⟩
  obtain ⟨y2, hy2⟩ : ∃ y2, xs[2]? = some y2 := ⟨xs[2]'(by rw [hxl]; decide), List.getElem?_eq_getElem _⟩
  rw [hy0] at g0
  rw [hy1] at g1
  rw [hy2] at g2
  simp [Try.cells32, Try.cells3] at g0 g1 g2
  obtain ⟨c, e0, _, hc⟩ := DataW.trod_int Try.underlying3 g0
  obtain ⟨q, e1, e2, hq⟩ := pair_read g1
  obtain ⟨d, e3, _, hd⟩ := DataW.trod_int Try.underlying3 g2
  simp only [List.cons.injEq, and_true] at e0 e3
  exact ⟨(c, q, d), e0, e1, e2, e3, bounds_i64 hc, hq, bounds_i64 hd⟩
set_option maxRecDepth 100000 in
theorem open_ldeeds {H : Type} {enc : TypeId × Value → H} {W : World} {base : Nat} {v : Value} {d : DataW H} {p : List MemPlace} (ov : Value.okWide Try.prog W .any base 22 v)
    (h : DataW.Trod enc Try.prog W 0 (fun _ => true) true 22 v d p) : ∃ L, eltsAt ldeedE W v L ∧ L.length ≤ maxLen ∧ (∀ q ∈ L, FitsDl q) ∧ nilNone v ∧ (∀ a n c, v = .slice a n c → n ≤ c) := by
  obtain ⟨a0, len, cap, rfl⟩ := okWide_slice Try.underlying22 ov
  obtain ⟨fuel, hf⟩ := h
  rcases Deep.open_slice Try.underlying22 hf with ⟨hcs, _⟩ | ⟨a, len', cap', m, n, D, Pl, hcs, _, hl, hm, hmm, _, hall⟩
  · have e : Value.slice a0 len cap = .slice none 0 0 := by simpa [Value.cells] using hcs
    cases e
    exact ⟨[], eltsAt.nil W, by simp, fun z hz => by simp at hz, fun n c e => by cases e; rfl, fun a n c e => by cases e; exact Nat.le_refl _⟩
  · have e : Value.slice a0 len cap = .slice (some a) len' cap' := by simpa [Value.cells] using hcs
    cases e
    have hm' : m = cap := by simpa using hmm
    subst hm'
    have each : ∀ i, i < len → ∃ q : DeedL, (∀ j u, (ldeedE.enc q)[j]? = some u → W.cell? (a.add (i * 4 + j)) = some u) ∧ FitsDl q := by
      intro i hi
      obtain ⟨cs', h1, h2⟩ := hall i (by omega)
      rw [Try.cellsDeedL] at h1
      obtain ⟨_, hlen, hcell⟩ := World.cells?_some h1
      match cs', hlen with
      | [v0, v1, v2, v3], _ =>
        obtain ⟨q, rfl, rfl, rfl, rfl, hq⟩ := ldeed_read h2
        refine ⟨q, fun j u hu => ?_, hq⟩
        have hj : j < 4 := by have := (List.getElem?_eq_some_iff.1 hu).1; rwa [ldeedE.len] at this
        have := hcell j hj
        rw [Deep.add_add] at this
        rw [this]
        exact hu
    obtain ⟨q, hq⟩ := Deep.choose_lt each
    have hlen : ((List.range len).map q).length = len := by simp
    refine ⟨(List.range len).map q, ⟨some a, m, by rw [hlen], fun j hj => ⟨a, rfl, ?_⟩⟩, by rw [hlen]; omega, ?_, fun n c e => (by cases e), fun a n c e => (by cases e; exact hl)⟩
    · have hj' : j < len := by simpa using hj
      obtain ⟨c0, _⟩ := hq j hj'
      have hg : ((List.range len).map q)[j] = q j := by simp
      rw [hg]
      exact ⟨block_of_cell (c0 0 _ rfl), c0⟩
    · intro p hp
      obtain ⟨i, hi, rfl⟩ := List.mem_map.1 hp
      exact (hq i (by simpa using hi)).2
end Go.Proofs.Ytbnekkcjkdghcaa
/- The laws' contracts: of a queue and what is live, side by side. -/
namespace Go.Proofs.Ytbnekkcjkdghcaa
open Go.RowKit Go.Maps Go.Shelf
open Go.Sort (grow grow_empty grow_grow alloc_eq_grow heap_grow_old)
variable {w w' wr w1 : World} {K Kl Nl T : Nat} {v u : Value} {L L' : Cn} {tv : Value} {tb : Option Nat} {J : List Joint} {q q' : Qm} {S S' : Nat → Prop}
variable {Bx : List (Nat × Obj)} {X X' : Ob} {Sq Sl Sx Sq' Sl' Sx' : Nat → Prop}

set_option maxRecDepth 100000 in
theorem LvIn.grown (h : LvIn w K Nl v u L) (g : Grown w w') : LvIn w' K Nl v u L := h.kept fun k a _ => g.below.block k a
set_option maxRecDepth 100000 in
theorem LvIn.cell (h : LvIn w K Nl v u L) : w.cell? ⟨Nl, 0, none⟩ = some (.pointer (some ⟨K, 0, none⟩)) := by
  rw [cell_of_row w Nl 0 _ 39 (0, 0) h.box]; rfl
set_option maxRecDepth 100000 in
theorem LvIn.get (h : LvIn w K Nl v u L) (a b : Int) : Calls Try.prog 13 #[.pointer (some ⟨K, 0, none⟩), .agg #[.int .i64 a, .int .i64 b]] w fun e w' => e = .returned (.int .i64 (getC L (a, b))) ∧ Grown w w' :=
  (rget_any 0 K 0 _ _ v u L a b w h.cnt (by have := h.few; omega)).mono fun e w' he => by
    obtain ⟨e1, n, rfl⟩ := he
    exact ⟨e1, ((Grown.refl w).alloc _).drewN n⟩
set_option maxRecDepth 100000 in
theorem LvIn.add (h : LvIn w K Nl v u L) (a b c t : Int) (hp : FitsPr (a, b)) (hc : FitsZ c) (ht : FitsZ t) (hl : (addC L (a, b) c t).1.length ≤ 1000) : Calls Try.prog 12 #[.pointer (some ⟨K, 0, none⟩), .agg #[.int .i64 a, .int .i64 b], .int .i64 c, .int .i64 t] w fun e w' => e = .returned (.int .i64 (addC L (a, b) c t).2) ∧ ∃ v' u', LvIn w' K Nl v' u' (addC L (a, b) c t).1 ∧ Stp (mineV K Nl v u) (mineV K Nl v' u') w w' :=
  (dradd_any 0 K 0 _ _ v u L a b c t w h.cnt h.good hc ht h.few).mono fun e w' he => by
    obtain ⟨e1, v', u', r1, r2, r3⟩ := he
    have hne : Nl ≠ K := fun e => by
      have h1 := h.box
      rw [e, h.cnt.box] at h1
      cases h1
    refine ⟨e1, v', u', ⟨r1, (r2.block Nl (h.lt Nl (.inr rfl)) hne).trans h.box, h.good.add hp c t, hl⟩, (Kept.refl (mineV K Nl v u) w).trans r2 fun k _ hk => .inl (.inl hk), fun k hk hlt => ?_⟩
    rcases hk with (hk | hk | hk) | hk
    · exact .inl (.inl hk)
    · exact .inl (.inr (r3 k (.inl hk) hlt))
    · exact .inl (.inr (r3 k (.inr hk) hlt))
    · exact .inr hk
set_option maxRecDepth 100000 in
theorem live_LazyPlays_1 (K Nl : Nat) (v u : Value) (L : Cn) : LiveF 15 #[.pointer (some ⟨Nl, 0, none⟩)] (getC L) (fun W => LvIn W K Nl v u L) (mineV K Nl v u) where
  enter := enters_of Try.func15 (by kernel_rfl) rfl
  calls := fun a b w hf h => by
    obtain ⟨N, hN⟩ : ∃ N, w.heap.size = N := ⟨_, rfl⟩
    obtain ⟨wa, hwa⟩ : ∃ wa, w.alloc (.cells #[.int .i64 a, .int .i64 b] 41) = wa := ⟨_, rfl⟩
    have hg : Grown w wa := by rw [← hwa]; exact (Grown.refl w).alloc _
    have hba : wa.heap[N]? = some (.cells #[.int .i64 a, .int .i64 b] 41 (0, 0)) := by rw [← hwa, ← hN]; exact heap_alloc_new w _
    have n0 : wa.cell? ⟨N, 0, none⟩ = some (.int .i64 a) := by rw [cell_of_row wa N _ _ 41 (0, 0) hba]; rfl
    have n1 : wa.cell? ⟨N, 1, none⟩ = some (.int .i64 b) := by rw [cell_of_row wa N _ _ 41 (0, 0) hba]; rfl
    have hL := h.grown hg
    have l0 := hL.cell
    have cG := hL.get a b
    have HG := Lib.hid hg
    clear h hg hba hL hf
    show Calls Try.prog 15 #[.agg #[.int .i64 a, .int .i64 b], .pointer (some ⟨Nl, 0, none⟩)] w _
    go_enter Try.func15, Try.ntmps15
    go_wp2_with fail
    refine cG.mono ?_
    rintro e w3 ⟨rfl, hg3⟩
    have HG3 := Lib.hid hg3
    clear hg3 cG
    go_wp2
    go_ret
    exact ⟨rfl, HG.out.trans HG3.out⟩
  keep := fun w w' h hs hk => h.kept hk
  lt := fun w h k hk => h.lt k hk
set_option maxRecDepth 100000 in
theorem live_LazyAll_1 (K Nl : Nat) (v u : Value) (L : Cn) : LiveF 20 #[.pointer (some ⟨Nl, 0, none⟩)] (getC L) (fun W => LvIn W K Nl v u L) (mineV K Nl v u) where
  enter := enters_of Try.func20 (by kernel_rfl) rfl
  calls := fun a b w hf h => by
    obtain ⟨N, hN⟩ : ∃ N, w.heap.size = N := ⟨_, rfl⟩
    obtain ⟨wa, hwa⟩ : ∃ wa, w.alloc (.cells #[.int .i64 a, .int .i64 b] 41) = wa := ⟨_, rfl⟩
    have hg : Grown w wa := by rw [← hwa]; exact (Grown.refl w).alloc _
    have hba : wa.heap[N]? = some (.cells #[.int .i64 a, .int .i64 b] 41 (0, 0)) := by rw [← hwa, ← hN]; exact heap_alloc_new w _
    have n0 : wa.cell? ⟨N, 0, none⟩ = some (.int .i64 a) := by rw [cell_of_row wa N _ _ 41 (0, 0) hba]; rfl
    have n1 : wa.cell? ⟨N, 1, none⟩ = some (.int .i64 b) := by rw [cell_of_row wa N _ _ 41 (0, 0) hba]; rfl
    have hL := h.grown hg
    have l0 := hL.cell
    have cG := hL.get a b
    have HG := Lib.hid hg
    clear h hg hba hL hf
    show Calls Try.prog 20 #[.agg #[.int .i64 a, .int .i64 b], .pointer (some ⟨Nl, 0, none⟩)] w _
    go_enter Try.func20, Try.ntmps20
    go_wp2_with fail
    refine cG.mono ?_
    rintro e w3 ⟨rfl, hg3⟩
    have HG3 := Lib.hid hg3
    clear hg3 cG
    go_wp2
    go_ret
    exact ⟨rfl, HG.out.trans HG3.out⟩
  keep := fun w w' h hs hk => h.kept hk
  lt := fun w h k hk => h.lt k hk
set_option maxRecDepth 100000 in
theorem live_LazyAll_2 (K Nl : Nat) (v u : Value) (L : Cn) : LiveF 22 #[.pointer (some ⟨Nl, 0, none⟩)] (getC L) (fun W => LvIn W K Nl v u L) (mineV K Nl v u) where
  enter := enters_of Try.func22 (by kernel_rfl) rfl
  calls := fun a b w hf h => by
    obtain ⟨N, hN⟩ : ∃ N, w.heap.size = N := ⟨_, rfl⟩
    obtain ⟨wa, hwa⟩ : ∃ wa, w.alloc (.cells #[.int .i64 a, .int .i64 b] 41) = wa := ⟨_, rfl⟩
    have hg : Grown w wa := by rw [← hwa]; exact (Grown.refl w).alloc _
    have hba : wa.heap[N]? = some (.cells #[.int .i64 a, .int .i64 b] 41 (0, 0)) := by rw [← hwa, ← hN]; exact heap_alloc_new w _
    have n0 : wa.cell? ⟨N, 0, none⟩ = some (.int .i64 a) := by rw [cell_of_row wa N _ _ 41 (0, 0) hba]; rfl
    have n1 : wa.cell? ⟨N, 1, none⟩ = some (.int .i64 b) := by rw [cell_of_row wa N _ _ 41 (0, 0) hba]; rfl
    have hL := h.grown hg
    have l0 := hL.cell
    have cG := hL.get a b
    have HG := Lib.hid hg
    clear h hg hba hL hf
    show Calls Try.prog 22 #[.agg #[.int .i64 a, .int .i64 b], .pointer (some ⟨Nl, 0, none⟩)] w _
    go_enter Try.func22, Try.ntmps22
    go_wp2_with fail
    refine cG.mono ?_
    rintro e w3 ⟨rfl, hg3⟩
    have HG3 := Lib.hid hg3
    clear hg3 cG
    go_wp2
    go_ret
    exact ⟨rfl, HG.out.trans HG3.out⟩
  keep := fun w w' h hs hk => h.kept hk
  lt := fun w h k hk => h.lt k hk
/-! With all that stands beside. -/
set_option maxRecDepth 100000 in
theorem la_get (h : LaS w Bx X K T tv tb J Kl Nl q L wr) (a b : Int) : Calls Try.prog 13 #[.pointer (some ⟨Kl, 0, none⟩), .agg #[.int .i64 a, .int .i64 b]] wr fun e w' => e = .returned (.int .i64 (getC L (a, b))) ∧ Grown wr w' := by
  obtain ⟨_, _, _, h⟩ := h
  obtain ⟨_, _, h1, _, _⟩ := h.lv
  exact h1.get a b
set_option maxRecDepth 100000 in
theorem la_add (h : LaS w Bx X K T tv tb J Kl Nl q L wr) (a b c t : Int) (hp : FitsPr (a, b)) (hc : FitsZ c) (ht : FitsZ t) (hl : (addC L (a, b) c t).1.length ≤ 1000) : Calls Try.prog 12 #[.pointer (some ⟨Kl, 0, none⟩), .agg #[.int .i64 a, .int .i64 b], .int .i64 c, .int .i64 t] wr fun e w' => e = .returned (.int .i64 (addC L (a, b) c t).2) ∧ LaS w Bx X K T tv tb J Kl Nl q (addC L (a, b) c t).1 w' := by
  obtain ⟨Sq, Sl, Sx, h⟩ := h
  obtain ⟨v, u, h1, h2, h3⟩ := h.lv
  refine (h1.add a b c t hp hc ht hl).mono fun e w' he => ?_
  obtain ⟨e1, v', u', r1, r2⟩ := he
  exact ⟨e1, Sq, mineV Kl Nl v' u', Sx, h.turnL ⟨v', u', r1, fun _ h => h, r1.lt⟩ ⟨(Kept.refl Sl wr).trans r2.kept fun k _ hk => h2 k hk, fun k hk hlt => h2 k (r2.out k hk hlt)⟩⟩
set_option maxRecDepth 100000 in
theorem la_put (h : LaS w Bx X K T tv tb J Kl Nl q L wr) (p : Int × Int) (n : Int) (hp : FitsPr p) (h1 : thereOf J p.1 = true) (h2 : thereOf J p.2 = true) (hn2 : FitsN n) (hpu : q.pu ≤ 80000) :
    Calls Try.prog 10 #[.pointer (some ⟨K, 0, none⟩), .agg #[.int .i64 p.1, .int .i64 p.2], .int .i64 n] wr fun e w' => e = .returned (.tuple #[]) ∧ LaS w Bx X K T tv tb J Kl Nl (putQ q p n) L w' := by
  obtain ⟨Sq, Sl, Sx, h⟩ := h
  refine (zput_any p n h.lz hp h1 h2 hn2 hpu).mono fun e w' he => ?_
  obtain ⟨e1, S', r1, r2⟩ := he
  exact ⟨e1, S', Sl, Sx, h.turnQ r1 r2⟩
def LaPop (w : World) (Bx : List (Nat × Obj)) (X : Ob) (K T : Nat) (tv : Value) (tb : Option Nat) (J : List Joint) (Kl Nl : Nat) (q : Qm) (L : Cn) (e : Ending) (w' : World) : Prop :=
  ∃ o l n, Pops J (getC L) q.ents o l n ∧ e = .returned (popV o) ∧ LaS w Bx X K T tv tb J Kl Nl (popQ q o l n) L w'
set_option maxRecDepth 100000 in
theorem la_pop {g : Nat} (hG : ∀ v u, LiveF g #[.pointer (some ⟨Nl, 0, none⟩)] (getC L) (fun W => LvIn W Kl Nl v u L) (mineV Kl Nl v u)) (h : LaS w Bx X K T tv tb J Kl Nl q L wr) (hpu : q.pu ≤ 80000) :
    Calls Try.prog 14 #[.pointer (some ⟨K, 0, none⟩), .func (.func g) #[] #[.pointer (some ⟨Nl, 0, none⟩)]] wr (LaPop w Bx X K T tv tb J Kl Nl q L) := by
  obtain ⟨Sq, Sl, Sx, h⟩ := h
  obtain ⟨v, u, h1, h2, h3⟩ := h.lv
  refine (zpop_any (hG v u) h.lz h1 (fun k hk hm => h.ql k hk (h2 k hm)) hpu).mono fun e w' he => ?_
  obtain ⟨o, l, n, r1, r2, S', r3, r4⟩ := he
  exact ⟨o, l, n, r1, r2, S', Sl, Sx, h.turnQ r3 r4⟩
set_option maxRecDepth 100000 in
theorem la_len (h : LaS w Bx X K T tv tb J Kl Nl q L wr) : Calls Try.prog 17 #[.pointer (some ⟨K, 0, none⟩)] wr fun e w' => e = .returned (.int .i64 (q.ents.length : Int)) ∧ w' = wr := by
  obtain ⟨_, _, _, h⟩ := h
  exact zlen_any h.lz
set_option maxRecDepth 100000 in
theorem la_known (h : LaS w Bx X K T tv tb J Kl Nl q L wr) : Calls Try.prog 18 #[.pointer (some ⟨K, 0, none⟩)] wr fun e w' => e = .returned (.int .i64 (q.known.length : Int)) ∧ w' = wr := by
  obtain ⟨_, _, _, h⟩ := h
  exact zknown_any h.lz
set_option maxRecDepth 100000 in
theorem la_better (h : LaS w Bx X K T tv tb J Kl Nl q L wr) (x y : Item) (hx : FitsI x) (hy : FitsI y) : Calls Try.prog 21 #[.pointer (some ⟨T, 0, none⟩), itemV x, itemV y] wr fun e w' => e = .returned (.bool (betterOf J x y)) ∧ Grown wr w' := by
  obtain ⟨_, _, _, h⟩ := h
  obtain ⟨_, _, _, _, _, _, _, h1, _, _⟩ := h.lz
  exact better_any T tv tb J x y wr h1.env.tab h1.env.few hx hy
set_option maxRecDepth 100000 in
/-- How many pairs are live. -/
theorem LaS.count (h : LaS w Bx X K T tv tb J Kl Nl q L wr) : ∃ v cap, wr.cell? ⟨Kl, 0, none⟩ = some (.slice v L.length cap) := by
  obtain ⟨_, _, _, h⟩ := h
  obtain ⟨v, u, h1, _, _⟩ := h.lv
  obtain ⟨a, cap, e, _⟩ := h1.cnt.keys.form
  rw [keysC_len] at e
  exact ⟨a, cap, by rw [cell_of_row wr Kl 0 _ 34 (0, 0) h1.cnt.box, e]; rfl⟩
end Go.Proofs.Ytbnekkcjkdghcaa
/- LazyAll in plain words; how the laws begin. -/
namespace Go.Proofs.Ytbnekkcjkdghcaa
open Go.RowKit Go.Maps Go.Shelf
open Go.Sort (grow grow_empty grow_grow alloc_eq_grow heap_grow_old)

/-- What is known is what is live, and of each there is an entry. -/
structure LaQ (q : Qm) (L : Cn) : Prop where
  known : q.known = L
  has : ∀ z ∈ L, itemC z ∈ q.ents
set_option maxRecDepth 100000 in
theorem laq_put {q : Qm} {L : Cn} (h : LaQ q L) (p : Int × Int) {n : Int} (hn : 0 ≤ n) : LaQ (putQ q p n) (setC L p n) := by
  unfold putQ
  rw [h.known]
  by_cases h0 : n < 1
  · have e : n = 0 := by omega
    subst e
    rw [if_pos h0, set_zero]
    exact ⟨rfl, fun z hz => h.has z (del_mem.1 hz).1⟩
  · rw [if_neg h0, set_ins p (by omega)]
    cases manyQ (q.ents.length + 1) (insC p n L).length with
    | true => exact ⟨rfl, fun z hz => List.mem_map_of_mem hz⟩
    | false =>
      refine ⟨rfl, fun z hz => ?_⟩
      rw [cond_false]
      rcases ins_mem.1 hz with rfl | ⟨hz, _⟩
      · exact List.mem_append.2 (.inr (List.mem_singleton.2 rfl))
      · exact List.mem_append.2 (.inl (h.has z hz))
set_option maxRecDepth 100000 in
theorem laq_new : LaQ newQ [] := ⟨rfl, fun z hz => by simp at hz⟩
set_option maxRecDepth 100000 in
theorem putQ_pu (q : Qm) (p : Int × Int) (n : Int) : (putQ q p n).pu ≤ q.pu + 1 := by
  unfold putQ
  split
  · simp only; omega
  · cases manyQ (q.ents.length + 1) (insC p n q.known).length <;> simp
set_option maxRecDepth 100000 in
theorem popQ_pu (q : Qm) (o : Option Item) (l : List Item) (n : Nat) : (popQ q o l n).pu = q.pu := rfl
set_option maxRecDepth 100000 in
/-- What is live of an item of the list. -/
theorem live_item {L : Cn} (hL : RisC L) {z : (Int × Int) × Int} (hz : z ∈ L) : getC L (pairI (itemC z)) = (itemC z).2.2 := by
  obtain ⟨⟨a, b⟩, c⟩ := z
  exact get_mem hL hz
set_option maxRecDepth 100000 in
/-- One is taken. -/
theorem laq_pop {q : Qm} {L : Cn} {o : Option Item} {l : List Item} {n : Nat} (h : LaQ q L) (hs : SaneQ [] q) (hp : Pops [] (getC L) q.ents o l n) (hne : L ≠ []) :
    ∃ x, o = .some x ∧ FitsI x ∧ getC L (pairI x) = x.2.2 ∧ 1 ≤ x.2.2 ∧ LaQ (popQ q o l n) (delC L (pairI x)) ∧ (∃ z ∈ L, x = itemC z) ∧ (∀ z ∈ delC L (pairI x), betterOf [] x (itemC z) = true) ∧ (delC L (pairI x)).length + 1 = L.length := by
  have hL : RisC L := by rw [← h.known]; exact hs.ris
  cases o with
  | none =>
    obtain ⟨z, hz⟩ := List.exists_mem_of_ne_nil L hne
    exact absurd (live_item hL hz) ((hp.nothing rfl).2 _ (h.has z hz))
  | some x =>
    obtain ⟨h1, h2, h3, h4⟩ := hp.some x rfl
    obtain ⟨f1, f2, f3, f4⟩ := hs.ents x h1
    have hin : inC L (pairI x) = true := by
      cases e : inC L (pairI x) with
      | true => rfl
      | false => rw [get_out e] at h2; omega
    have hm := get_in hin
    rw [h2] at hm
    have hlen := len_del hL (pairI x)
    rw [hin] at hlen
    refine ⟨x, rfl, f1, h2, f4, ⟨?_, fun z hz => ?_⟩, ⟨(pairI x, x.2.2), hm, rfl⟩, fun z hz => ?_, by simpa using hlen⟩
    · show delC q.known (pairI x) = delC L (pairI x)
      rw [h.known]
    · obtain ⟨hz1, hz2⟩ := del_mem.1 hz
      rcases h4 _ (h.has z hz1) (live_item hL hz1) with e | e
      · exact absurd (by rw [← e]; rfl) hz2
      · exact e
    · obtain ⟨hz1, hz2⟩ := del_mem.1 hz
      have h5 := h3 _ (h.has z hz1) (live_item hL hz1)
      obtain ⟨g1, g2, g3, g4⟩ := hs.ents _ (h.has z hz1)
      exact better_one good_nil g2 g3 f2 f3 (fun e => hz2 (Prod.ext e.1 e.2)) h5
set_option maxRecDepth 100000 in
theorem laq_end {q : Qm} {o : Option Item} {l : List Item} {n : Nat} (hs : SaneQ [] q) (hp : Pops [] (getC []) q.ents o l n) : o = .none ∧ l = [] := by
  cases o with
  | none => exact ⟨rfl, (hp.nothing rfl).1⟩
  | some x =>
    obtain ⟨h1, h2, _, _⟩ := hp.some x rfl
    have := (hs.ents x h1).2.2.2
    have e : getC [] (pairI x) = 0 := rfl
    rw [e] at h2
    omega
set_option maxRecDepth 100000 in
/-- The laws begin: a queue, one more object, and a new count. -/
theorem la_start {w w3 : World} {S Sx : Nat → Prop} {X : Ob} {K T : Nat} {tv : Value} {tb : Option Nat} {J : List Joint} {q : Qm} (hz : Lz w3 S K T tv tb J q) (hS : ∀ k, S k → w.heap.size ≤ k) (hx : X.P w3 Sx) (hSx : ∀ k, Sx k → w.heap.size ≤ k) (hap : ∀ k, S k → ¬ Sx k) (hb : Below w.heap.size w w3) :
    LaS w [] X K T tv tb J w3.heap.size (w3.heap.size + 1) q [] ((w3.alloc (.cells #[.slice none 0 0, .slice none 0 0] 34)).alloc (.cells #[.pointer (some ⟨w3.heap.size, 0, none⟩)] 39)) := by
  obtain ⟨w4, hw4⟩ : ∃ w4, w3.alloc (.cells #[.slice none 0 0, .slice none 0 0] 34) = w4 := ⟨_, rfl⟩
  obtain ⟨w5, hw5⟩ : ∃ w5, w4.alloc (.cells #[.pointer (some ⟨w3.heap.size, 0, none⟩)] 39) = w5 := ⟨_, rfl⟩
  have z4 : w4.heap.size = w3.heap.size + 1 := by rw [← hw4, World.size_alloc]
  have g5 : Grown w3 w5 := by rw [← hw5, ← hw4]; exact ((Grown.refl w3).alloc _).alloc _
  have g45 : Grown w4 w5 := by rw [← hw5]; exact (Grown.refl w4).alloc _
  have hc : Rco w4 0 w3.heap.size 0 #[.slice none 0 0, .slice none 0 0] 34 (.slice none 0 0) (.slice none 0 0) [] := by rw [← hw4]; exact (rnew_rco w3).mono (Nat.zero_le _)
  rw [hw4, hw5]
  have hsz : w5.heap.size = w3.heap.size + 2 := by rw [← hw5, World.size_alloc, z4]
  have hlv : LvIn w5 w3.heap.size (w3.heap.size + 1) (.slice none 0 0) (.slice none 0 0) [] :=
    ⟨hc.below g45.below, by rw [← hw5, ← z4]; exact heap_alloc_new w4 _, GoodC.nil, by simp⟩
  have hmv : ∀ k, mineV w3.heap.size (w3.heap.size + 1) (.slice none 0 0) (.slice none 0 0) k → w3.heap.size ≤ k := by
    rintro k ((rfl | e | e) | rfl)
    · exact Nat.le_refl _
    · simp [Value.ownBlock] at e
    · simp [Value.ownBlock] at e
    · omega
  refine ⟨S, _, Sx, ⟨hz.grown g5, ⟨_, _, hlv, fun _ h => h, hlv.lt⟩, X.kept _ _ _ hx (fun k a _ => g5.below.block k a) g5.below.size, fun k h1 h2 => ?_, hap, fun k h1 h2 => ?_, fun k hk => ?_, fun b hb => by simp at hb, hb.trans (g5.below.mono hb.size)⟩⟩
  · have := hz.lt k h1; have := hmv k h2; omega
  · have := X.lt _ _ hx k h2; have := hmv k h1; omega
  · rcases hk with hk | hk | hk
    · exact hS k hk
    · have := hmv k hk; have := hb.size; omega
    · exact hSx k hk
end Go.Proofs.Ytbnekkcjkdghcaa
