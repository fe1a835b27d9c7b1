/- A queue, what is live, and one more object, side by side; the boxes of a law beside them. -/
import Derived.Test.YtbnekkcjkdghcaaLzAwake
namespace Go.Proofs.Ytbnekkcjkdghcaa
open Go.RowKit Go.Maps Go.Shelf
open Go.Sort (grow grow_empty grow_grow alloc_eq_grow heap_grow_old)

/-- What is live: a count of the document's in block K, which box Nl points to. -/
structure LvIn (w : World) (K Nl : Nat) (v u : Value) (L : Cn) : Prop where
  cnt : Rco w 0 K 0 #[v, u] 34 v u L
  box : w.heap[Nl]? = some (.cells #[.pointer (some ⟨K, 0, none⟩)] 39 (0, 0))
  good : GoodC L
  few : L.length ≤ 1000
abbrev mineV (K Nl : Nat) (v u : Value) (k : Nat) : Prop := dmineR K v u k ∨ k = Nl
variable {w w' wr w1 : World} {K Kl Nl T : Nat} {v u : Value} {L L' : Cn} {tv : Value} {tb : Option Nat} {J : List Joint} {q q' : Qm} {S S' : Nat → Prop}
set_option maxRecDepth 100000 in
theorem LvIn.lt (h : LvIn w K Nl v u L) : ∀ k, mineV K Nl v u k → k < w.heap.size := by
  rintro k (hk | rfl)
  · exact (h.cnt.lt k hk).2
  · exact (Array.getElem?_eq_some_iff.1 h.box).1
set_option maxRecDepth 100000 in
theorem LvIn.kept (h : LvIn w K Nl v u L) (hk : ∀ k, k < w.heap.size → mineV K Nl v u k → w'.heap[k]? = w.heap[k]?) : LvIn w' K Nl v u L :=
  ⟨h.cnt.kept fun k h1 h2 => hk k h1 (.inl h2), (hk Nl (h.lt Nl (.inr rfl)) (.inr rfl)).trans h.box, h.good, h.few⟩
def Lv (w : World) (S : Nat → Prop) (K Nl : Nat) (L : Cn) : Prop := ∃ v u, LvIn w K Nl v u L ∧ (∀ k, mineV K Nl v u k → S k) ∧ ∀ k, S k → k < w.heap.size
set_option maxRecDepth 100000 in
theorem Lv.kept (h : Lv w S K Nl L) (hk : ∀ k, k < w.heap.size → S k → w'.heap[k]? = w.heap[k]?) (hs : w.heap.size ≤ w'.heap.size) : Lv w' S K Nl L := by
  obtain ⟨v, u, h1, h2, h3⟩ := h
  exact ⟨v, u, h1.kept fun k a b => hk k a (h2 k b), h2, fun k a => Nat.lt_of_lt_of_le (h3 k a) hs⟩
/-- One more object: what is said of it stays where its blocks stay. -/
structure Ob where
  P : World → (Nat → Prop) → Prop
  lt : ∀ w S, P w S → ∀ k, S k → k < w.heap.size
  kept : ∀ w w' S, P w S → (∀ k, k < w.heap.size → S k → w'.heap[k]? = w.heap[k]?) → w.heap.size ≤ w'.heap.size → P w' S
def Ob.none : Ob := ⟨fun _ S => ∀ k, ¬ S k, fun _ _ h k hk => (h k hk).elim, fun _ _ _ h _ _ => h⟩
/-- All of them; the blocks of Bx are boxes of the law's own; nothing below w's size has turned. -/
structure LaIn (w : World) (Bx : List (Nat × Obj)) (X : Ob) (K T : Nat) (tv : Value) (tb : Option Nat) (J : List Joint) (Kl Nl : Nat) (q : Qm) (L : Cn) (Sq Sl Sx : Nat → Prop) (wr : World) : Prop where
  lz : Lz wr Sq K T tv tb J q
  lv : Lv wr Sl Kl Nl L
  x : X.P wr Sx
  ql : ∀ k, Sq k → ¬ Sl k
  qx : ∀ k, Sq k → ¬ Sx k
  lx : ∀ k, Sl k → ¬ Sx k
  base : ∀ k, Sq k ∨ Sl k ∨ Sx k → w.heap.size ≤ k
  bx : ∀ b ∈ Bx, wr.heap[b.1]? = some b.2 ∧ w.heap.size ≤ b.1 ∧ ¬ (Sq b.1 ∨ Sl b.1 ∨ Sx b.1)
  bel : Below w.heap.size w wr
def LaS (w : World) (Bx : List (Nat × Obj)) (X : Ob) (K T : Nat) (tv : Value) (tb : Option Nat) (J : List Joint) (Kl Nl : Nat) (q : Qm) (L : Cn) (wr : World) : Prop := ∃ Sq Sl Sx, LaIn w Bx X K T tv tb J Kl Nl q L Sq Sl Sx wr
variable {Bx : List (Nat × Obj)} {X X' : Ob} {Sq Sl Sx Sq' Sl' Sx' : Nat → Prop}
set_option maxRecDepth 100000 in
theorem LaIn.grown (h : LaIn w Bx X K T tv tb J Kl Nl q L Sq Sl Sx wr) (g : Grown wr w') : LaIn w Bx X K T tv tb J Kl Nl q L Sq Sl Sx w' :=
  ⟨h.lz.grown g, h.lv.kept (fun k a _ => g.below.block k a) g.below.size, X.kept _ _ _ h.x (fun k a _ => g.below.block k a) g.below.size, h.ql, h.qx, h.lx, h.base,
    fun b hb => ⟨(g.below.block _ (Array.getElem?_eq_some_iff.1 (h.bx b hb).1).1).trans (h.bx b hb).1, (h.bx b hb).2⟩, h.bel.trans (g.below.mono h.bel.size)⟩
set_option maxRecDepth 100000 in
theorem LaS.grown (h : LaS w Bx X K T tv tb J Kl Nl q L wr) (g : Grown wr w') : LaS w Bx X K T tv tb J Kl Nl q L w' := by
  obtain ⟨a, b, c, h⟩ := h
  exact ⟨a, b, c, h.grown g⟩
set_option maxRecDepth 100000 in
theorem LaS.drew (h : LaS w Bx X K T tv tb J Kl Nl q L wr) : LaS w Bx X K T tv tb J Kl Nl q L wr.drew := h.grown ((Grown.refl wr).drewN 1)
set_option maxRecDepth 100000 in
theorem LaS.tail {b : Nat × Obj} (h : LaS w (b :: Bx) X K T tv tb J Kl Nl q L wr) : LaS w Bx X K T tv tb J Kl Nl q L wr := by
  obtain ⟨a, c, d, h⟩ := h
  exact ⟨a, c, d, ⟨h.lz, h.lv, h.x, h.ql, h.qx, h.lx, h.base, fun b hb => h.bx b (List.mem_cons_of_mem _ hb), h.bel⟩⟩
set_option maxRecDepth 100000 in
theorem LaS.sub {By : List (Nat × Obj)} (h : LaS w Bx X K T tv tb J Kl Nl q L wr) (hs : ∀ b ∈ By, b ∈ Bx) : LaS w By X K T tv tb J Kl Nl q L wr := by
  obtain ⟨a, c, d, h⟩ := h
  exact ⟨a, c, d, ⟨h.lz, h.lv, h.x, h.ql, h.qx, h.lx, h.base, fun b hb => h.bx b (hs b hb), h.bel⟩⟩
set_option maxRecDepth 100000 in
/-- A new box. -/
theorem LaS.box (h : LaS w Bx X K T tv tb J Kl Nl q L wr) (cs : Array Value) (t : TypeId) : LaS w ((wr.heap.size, .cells cs t (0, 0)) :: Bx) X K T tv tb J Kl Nl q L (wr.alloc (.cells cs t)) := by
  obtain ⟨a, c, d, h0⟩ := h
  have h := h0.grown ((Grown.refl wr).alloc (.cells cs t))
  refine ⟨a, c, d, ⟨h.lz, h.lv, h.x, h.ql, h.qx, h.lx, h.base, fun b hb => ?_, h.bel⟩⟩
  rcases List.mem_cons.1 hb with rfl | hb
  · refine ⟨heap_alloc_new wr _, h0.bel.size, fun hk => ?_⟩
    rcases hk with hk | hk | hk
    · exact Nat.lt_irrefl _ (h0.lz.lt _ hk)
    · obtain ⟨_, _, _, _, h3⟩ := h0.lv
      exact Nat.lt_irrefl _ (h3 _ hk)
    · exact Nat.lt_irrefl _ (X.lt _ _ h0.x _ hk)
  · exact h.bx b hb
set_option maxRecDepth 100000 in
theorem LaS.at (h : LaS w Bx X K T tv tb J Kl Nl q L wr) {k : Nat} {o : Obj} (hm : (k, o) ∈ Bx) : wr.heap[k]? = some o := by
  obtain ⟨_, _, _, h⟩ := h
  exact (h.bx _ hm).1
set_option maxRecDepth 100000 in
theorem LaS.bel (h : LaS w Bx X K T tv tb J Kl Nl q L wr) : Below w.heap.size w wr := by obtain ⟨_, _, _, h⟩ := h; exact h.bel
set_option maxRecDepth 100000 in
theorem LaS.sane (h : LaS w Bx X K T tv tb J Kl Nl q L wr) : SaneQ J q := by obtain ⟨_, _, _, h⟩ := h; exact h.lz.sane
set_option maxRecDepth 100000 in
theorem LaS.live (h : LaS w Bx X K T tv tb J Kl Nl q L wr) : wr.cell? ⟨Nl, 0, none⟩ = some (.pointer (some ⟨Kl, 0, none⟩)) := by
  obtain ⟨_, _, _, h⟩ := h
  obtain ⟨_, _, h1, _, _⟩ := h.lv
  rw [cell_of_row wr Nl 0 _ 39 (0, 0) h1.box]; rfl
set_option maxRecDepth 100000 in
theorem LaS.good (h : LaS w Bx X K T tv tb J Kl Nl q L wr) : GoodC L ∧ L.length ≤ 1000 := by
  obtain ⟨_, _, _, h⟩ := h
  obtain ⟨_, _, h1, _, _⟩ := h.lv
  exact ⟨h1.good, h1.few⟩
set_option maxRecDepth 100000 in
/-- A box is written over; the boxes' numbers are unlike. -/
theorem LaS.set (h : LaS w Bx X K T tv tb J Kl Nl q L wr) {k i : Nat} {cs : Array Value} {t : TypeId} {By : List (Nat × Obj)} (x : Value) (hm : (k, .cells cs t (0, 0)) ∈ Bx) (hs : ∀ b ∈ By, b ∈ Bx ∧ b.1 ≠ k) : LaS w ((k, .cells (cs.setIfInBounds i x) t (0, 0)) :: By) X K T tv tb J Kl Nl q L (wr.setCell ⟨k, i, none⟩ x) := by
  obtain ⟨a, c, d, h⟩ := h
  obtain ⟨h1, h2, h3⟩ := h.bx _ hm
  have hne : ∀ j, j ≠ k → (wr.setCell ⟨k, i, none⟩ x).heap[j]? = wr.heap[j]? := fun j hj => Below.heap_setCell _ ⟨k, i, none⟩ _ j hj
  have hsz : wr.heap.size ≤ (wr.setCell ⟨k, i, none⟩ x).heap.size := by simp
  refine ⟨a, c, d, ⟨h.lz.kept (fun j _ hj => hne j fun e => h3 (.inl (e ▸ hj))) hsz, h.lv.kept (fun j _ hj => hne j fun e => h3 (.inr (.inl (e ▸ hj)))) hsz, X.kept _ _ _ h.x (fun j _ hj => hne j fun e => h3 (.inr (.inr (e ▸ hj)))) hsz, h.ql, h.qx, h.lx, h.base, fun b hb => ?_, h.bel.setCell (p := ⟨k, i, none⟩) h2 x⟩⟩
  rcases List.mem_cons.1 hb with rfl | hb
  · exact ⟨heap_setCell_at h1 x, h2, h3⟩
  · obtain ⟨h4, h5⟩ := hs b hb
    exact ⟨(hne _ h5).trans (h.bx b h4).1, (h.bx b h4).2⟩
set_option maxRecDepth 100000 in
theorem Stp.below (h : Stp S S' wr w') (hb : ∀ k, S k → w.heap.size ≤ k) (hbel : Below w.heap.size w wr) : Below w.heap.size w w' := hbel.trans (h.kept.below hbel.size hb)
set_option maxRecDepth 100000 in
theorem Stp.base (h : Stp S S' wr w') (hb : ∀ k, S k → w.heap.size ≤ k) (hs : w.heap.size ≤ wr.heap.size) : ∀ k, S' k → w.heap.size ≤ k := fun k hk => by
  by_cases hlt : k < wr.heap.size
  · exact hb k (h.out k hk hlt)
  · omega
set_option maxRecDepth 100000 in
theorem boxes_step (h : ∀ b ∈ Bx, wr.heap[b.1]? = some b.2 ∧ w.heap.size ≤ b.1 ∧ ¬ S b.1) (hs : Stp S S' wr w') : ∀ b ∈ Bx, w'.heap[b.1]? = some b.2 ∧ ¬ S' b.1 := fun b hb => by
  obtain ⟨h1, _, h3⟩ := h b hb
  have hlt := (Array.getElem?_eq_some_iff.1 h1).1
  exact ⟨(hs.kept.block _ hlt h3).trans h1, fun hk => h3 (hs.out _ hk hlt)⟩
set_option maxRecDepth 100000 in
/-- The queue has turned. -/
theorem LaIn.turnQ (h : LaIn w Bx X K T tv tb J Kl Nl q L Sq Sl Sx wr) (hz : Lz w' Sq' K T tv tb J q') (hs : Stp Sq Sq' wr w') : LaIn w Bx X K T tv tb J Kl Nl q' L Sq' Sl Sx w' := by
  have hl : ∀ k, Sl k → k < wr.heap.size := by obtain ⟨_, _, _, _, h3⟩ := h.lv; exact h3
  refine ⟨hz, h.lv.kept (hs.block (R := Sl) h.ql) hs.kept.size, X.kept _ _ _ h.x (hs.block (R := Sx) h.qx) hs.kept.size, hs.apart h.ql hl, hs.apart h.qx (X.lt _ _ h.x), h.lx, fun k hk => ?_, fun b hb => ?_, hs.below (fun k hk => h.base k (.inl hk)) h.bel⟩
  · rcases hk with hk | hk
    · exact hs.base (fun k hk => h.base k (.inl hk)) h.bel.size k hk
    · exact h.base k (.inr hk)
  · have h1 := boxes_step (w := w) (S := Sq) (fun b hb => ⟨(h.bx b hb).1, (h.bx b hb).2.1, fun hk => (h.bx b hb).2.2 (.inl hk)⟩) hs b hb
    exact ⟨h1.1, (h.bx b hb).2.1, fun hk => hk.elim h1.2 fun hk => (h.bx b hb).2.2 (.inr hk)⟩
set_option maxRecDepth 100000 in
/-- What is live has turned. -/
theorem LaIn.turnL (h : LaIn w Bx X K T tv tb J Kl Nl q L Sq Sl Sx wr) (hz : Lv w' Sl' Kl Nl L') (hs : Stp Sl Sl' wr w') : LaIn w Bx X K T tv tb J Kl Nl q L' Sq Sl' Sx w' := by
  refine ⟨h.lz.kept (hs.block (R := Sq) fun k h1 h2 => h.ql k h2 h1) hs.kept.size, hz, X.kept _ _ _ h.x (hs.block (R := Sx) h.lx) hs.kept.size, fun k h1 h2 => hs.apart (R := Sq) (fun k h1 h2 => h.ql k h2 h1) h.lz.lt k h2 h1, h.qx, hs.apart h.lx (X.lt _ _ h.x), fun k hk => ?_, fun b hb => ?_, hs.below (fun k hk => h.base k (.inr (.inl hk))) h.bel⟩
  · rcases hk with hk | hk | hk
    · exact h.base k (.inl hk)
    · exact hs.base (fun k hk => h.base k (.inr (.inl hk))) h.bel.size k hk
    · exact h.base k (.inr (.inr hk))
  · have h1 := boxes_step (w := w) (S := Sl) (fun b hb => ⟨(h.bx b hb).1, (h.bx b hb).2.1, fun hk => (h.bx b hb).2.2 (.inr (.inl hk))⟩) hs b hb
    exact ⟨h1.1, (h.bx b hb).2.1, fun hk => hk.elim (fun hk => (h.bx b hb).2.2 (.inl hk)) fun hk => hk.elim h1.2 fun hk => (h.bx b hb).2.2 (.inr (.inr hk))⟩
set_option maxRecDepth 100000 in
/-- The other object has turned. -/
theorem LaIn.turnX (h : LaIn w Bx X K T tv tb J Kl Nl q L Sq Sl Sx wr) (hz : X'.P w' Sx') (hs : Stp Sx Sx' wr w') : LaIn w Bx X' K T tv tb J Kl Nl q L Sq Sl Sx' w' := by
  have hl : ∀ k, Sl k → k < wr.heap.size := by obtain ⟨_, _, _, _, h3⟩ := h.lv; exact h3
  refine ⟨h.lz.kept (hs.block (R := Sq) fun k h1 h2 => h.qx k h2 h1) hs.kept.size, h.lv.kept (hs.block (R := Sl) fun k h1 h2 => h.lx k h2 h1) hs.kept.size, hz, h.ql, fun k h1 h2 => hs.apart (R := Sq) (fun k h1 h2 => h.qx k h2 h1) h.lz.lt k h2 h1, fun k h1 h2 => hs.apart (R := Sl) (fun k h1 h2 => h.lx k h2 h1) hl k h2 h1, fun k hk => ?_, fun b hb => ?_, hs.below (fun k hk => h.base k (.inr (.inr hk))) h.bel⟩
  · rcases hk with hk | hk | hk
    · exact h.base k (.inl hk)
    · exact h.base k (.inr (.inl hk))
    · exact hs.base (fun k hk => h.base k (.inr (.inr hk))) h.bel.size k hk
  · have h1 := boxes_step (w := w) (S := Sx) (fun b hb => ⟨(h.bx b hb).1, (h.bx b hb).2.1, fun hk => (h.bx b hb).2.2 (.inr (.inr hk))⟩) hs b hb
    exact ⟨h1.1, (h.bx b hb).2.1, fun hk => hk.elim (fun hk => (h.bx b hb).2.2 (.inl hk)) fun hk => hk.elim (fun hk => (h.bx b hb).2.2 (.inr (.inl hk))) h1.2⟩
end Go.Proofs.Ytbnekkcjkdghcaa
