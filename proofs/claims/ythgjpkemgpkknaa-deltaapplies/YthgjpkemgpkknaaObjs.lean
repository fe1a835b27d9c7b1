/- A count of the call's own, and the document's beside it. -/
import Derived.Test.YthgjpkemgpkknaaArgD
namespace Go.Proofs.Ythgjpkemgpkknaa
open Go.RowKit Go.Maps

/-- The count in block K, all of which was made behind w, has L; what lay in w lies as it lay. -/
structure Own1 (w : World) (K : Nat) (L : Cn) (wr : World) : Prop where
  obj : ∃ m, Cts wr K m L ∧ ∀ k, mineC K m k → w.heap.size ≤ k
  good : GoodC L
  bel : Below w.heap.size w wr
theorem Own1.new {w wr : World} (hb : Below w.heap.size w wr) : Own1 w wr.heap.size [] (wr.alloc (.cells #[.map none] 52)) :=
  ⟨⟨none, new_cts wr, by
    rintro k (rfl | e)
    · exact hb.size
    · cases e⟩, GoodC.nil, hb.alloc hb.size _⟩
theorem Own1.later {w wr w' : World} {K : Nat} {L : Cn} (h : Own1 w K L wr) (hb : Below wr.heap.size wr w') : Own1 w K L w' := by
  obtain ⟨⟨m, h1, h2⟩, hg, hbel⟩ := h
  exact ⟨⟨m, h1.below hb, h2⟩, hg, hbel.trans (hb.mono hbel.size)⟩
theorem Own1.drewN {w wr : World} {K : Nat} {L : Cn} (h : Own1 w K L wr) (n : Nat) : Own1 w K L (wr.drewN n) := h.later (below_drewN' (Below.refl _ _) n)
theorem Own1.of_ret {w wr w' : World} {K : Nat} {m : Option Nat} {L M : Cn} (h1 : Cts wr K m L) (h2 : ∀ k, mineC K m k → w.heap.size ≤ k) (hbel : Below w.heap.size w wr) (hg : GoodC M) (hr : CRet K m M wr w') : Own1 w K M w' := by
  obtain ⟨m', h3, hk, hm⟩ := hr
  refine ⟨⟨m', h3, fun k hk' => ?_⟩, hg, Below.kept hbel hk h2 hbel.size⟩
  rcases hk' with rfl | e
  · exact h2 _ (.inl rfl)
  · rcases hm with rfl | ⟨b, rfl, hb⟩
    · exact h2 k (.inr e)
    · cases e; exact Nat.le_trans hbel.size hb
/-- Boxes of pairs lie as they lay. -/
def Box24 (w w' : World) : Prop := ∀ (k : Nat) (cs : Array Value) (fr : Nat × Nat), w.heap[k]? = some (Obj.cells cs 24 fr) → w'.heap[k]? = some (Obj.cells cs 24 fr)
theorem Box24.of_below {w w' : World} (h : Below w.heap.size w w') : Box24 w w' := fun k _ _ hk => (h.block k (Array.getElem?_eq_some_iff.1 hk).1).trans hk
theorem Box24.of_kept {w w' : World} {K : Nat} {m : Option Nat} {L : Cn} (h : Cts w K m L) (hk : Kept (mineC K m) w w') : Box24 w w' := fun k cs fr hb => by
  refine (hk.block k (Array.getElem?_eq_some_iff.1 hb).1 ?_).trans hb
  rintro (rfl | e)
  · have := h.1
    rw [hb] at this; cases this
  · subst e
    obtain ⟨es, clock, h2⟩ := CMap.block h.2
    rw [hb] at h2; cases h2
theorem box_cells {w : World} {k : Nat} {p q : Int} (h : w.heap[k]? = some (.cells #[.int .i64 p, .int .i64 q] 24 (0, 0))) : w.cell? ⟨k, 0, none⟩ = some (.int .i64 p) ∧ w.cell? ⟨k, 1, none⟩ = some (.int .i64 q) :=
  ⟨by rw [cell_of_row w k 0 _ 24 (0, 0) h]; rfl, by rw [cell_of_row w k 1 _ 24 (0, 0) h]; rfl⟩
theorem addO {w wr : World} {K : Nat} {L : Cn} (h : Own1 w K L wr) {p q b t : Int} (hp : FitsPr (p, q)) (hb : FitsZ b) (ht : FitsZ t) (hl : L.length ≤ 1048576) :
    Calls Try.prog 8 #[.pointer (some ⟨K, 0, none⟩), .agg #[.int .i64 p, .int .i64 q], .int .i64 b, .int .i64 t] wr fun e w' => e = .returned (.int .i64 (addC L (p, q) b t).2) ∧ Own1 w K (addC L (p, q) b t).1 w' ∧ Box24 wr w' := by
  have hg := h.good.add hp b t
  obtain ⟨⟨m, h1, h2⟩, hgo, hbel⟩ := h
  refine (cadd_any K m L p q b t wr h1 hgo hp hb ht hl).mono ?_
  rintro e w' ⟨rfl, hr⟩
  refine ⟨rfl, Own1.of_ret h1 h2 hbel hg hr, ?_⟩
  obtain ⟨_, _, hk, _⟩ := hr
  exact Box24.of_kept h1 hk
theorem getO {w wr : World} {K : Nat} {L : Cn} (h : Own1 w K L wr) {p q : Int} (hp : FitsPr (p, q)) :
    Calls Try.prog 10 #[.pointer (some ⟨K, 0, none⟩), .agg #[.int .i64 p, .int .i64 q]] wr fun e w' => e = .returned (.int .i64 (getC L (p, q))) ∧ Below wr.heap.size wr w' := by
  obtain ⟨⟨m, h1, h2⟩, _, _⟩ := h
  refine (get_any K m L p q wr h1 hp).mono ?_
  rintro e w' ⟨rfl, rfl⟩
  exact ⟨rfl, ((Below.refl _ wr).alloc (Nat.le_refl _) _).drew⟩
theorem lenO {w wr : World} {K : Nat} {L : Cn} (h : Own1 w K L wr) :
    Calls Try.prog 12 #[.pointer (some ⟨K, 0, none⟩)] wr fun e w' => e = .returned (.int .i64 (L.length : Int)) ∧ w' = wr := by
  obtain ⟨⟨m, h1, h2⟩, _, _⟩ := h
  exact len_any K m L wr h1
theorem allO {w wr : World} {K : Nat} {L : Cn} (h : Own1 w K L wr) (hl : L.length ≤ 1000000) : Calls Try.prog 14 #[.pointer (some ⟨K, 0, none⟩)] wr fun e w' => RisRet wr L e w' := by
  obtain ⟨⟨m, h1, h2⟩, _, _⟩ := h
  exact all_any K m L wr h1 hl
/-- The document's count in block K, all of which was made behind w. -/
def RefO (w : World) (K : Nat) (L : Cn) (wr : World) : Prop := ∃ v u, Rct wr w.heap.size K v u L
theorem RefO.later {w wr w' : World} {K : Nat} {L : Cn} (h : RefO w K L wr) (hb : Below wr.heap.size wr w') : RefO w K L w' := by
  obtain ⟨v, u, h1⟩ := h
  exact ⟨v, u, h1.below hb⟩
theorem RefO.new {w wr : World} (hb : w.heap.size ≤ wr.heap.size) : RefO w wr.heap.size [] (wr.alloc (.cells #[.slice none 0 0, .slice none 0 0] 32)) := ⟨_, _, (rnew_rct wr).mono hb⟩
/-- What turns the document's count in block K2 leaves another one. -/
theorem RefO.other {w wr w' : World} {K K2 : Nat} {L M : Cn} (h : RefO w K L wr) (h2 : RefO w K2 M wr) (hne : K2 ≠ K) (hk : Kept (fun k => k = K2) wr w') : RefO w K L w' := by
  obtain ⟨v, u, h1⟩ := h
  obtain ⟨v2, u2, h3⟩ := h2
  refine ⟨v, u, h1.kept fun k hlt hm => hk.block k hlt ?_⟩
  rintro rfl
  rcases hm with e | e | e
  · exact hne e
  · obtain ⟨cs, hc⟩ := h1.keys.block _ e.symm
    rw [h3.cells] at hc
    have := congrArg (fun o => match o with | some (Obj.cells _ t _) => t | _ => 0) hc
    simp [pairE] at this
  · obtain ⟨cs, hc⟩ := h1.vals.block _ e.symm
    rw [h3.cells] at hc
    have := congrArg (fun o => match o with | some (Obj.cells _ t _) => t | _ => 0) hc
    simp [intE] at this
/-- .. and the program's. -/
theorem Own1.other {w wr w' : World} {K K2 : Nat} {L M : Cn} (h : Own1 w K L wr) (h2 : RefO w K2 M wr) (hk : Kept (fun k => k = K2) wr w') : Own1 w K L w' := by
  obtain ⟨⟨m, h1, h4⟩, hg, hbel⟩ := h
  obtain ⟨v2, u2, h3⟩ := h2
  refine ⟨⟨m, h1.kept fun k hlt hm => hk.block k hlt ?_, h4⟩, hg, Below.kept hbel hk (fun k e => by rw [e]; exact h3.ge) hbel.size⟩
  rintro rfl
  rcases hm with rfl | e
  · have := h3.cells
    rw [h1.1] at this; cases this
  · subst e
    obtain ⟨es, clock, hb⟩ := CMap.block h1.2
    have := h3.cells
    rw [hb] at this; cases this
/-- What turns the program's count leaves the document's. -/
theorem RefO.otherC {w wr w' : World} {K K2 : Nat} {m : Option Nat} {L M : Cn} (h : RefO w K2 M wr) (h1 : Cts wr K m L) (hk : Kept (mineC K m) wr w') : RefO w K2 M w' := by
  obtain ⟨v, u, h2⟩ := h
  have hm : ∀ k, mineC K m k → (∃ cs, wr.heap[k]? = some (.cells cs 52 (0, 0))) ∨ ∃ es clock, wr.heap[k]? = some (.map es clock) := by
    rintro k (rfl | e)
    · exact .inl ⟨_, h1.1⟩
    · subst e; exact .inr (CMap.block h1.2)
  refine ⟨v, u, h2.kept fun k hlt hr => hk.block k hlt fun hmk => ?_⟩
  have hr' : ∃ cs ty, wr.heap[k]? = some (.cells cs ty (0, 0)) ∧ ty ≠ 52 := by
    rcases hr with rfl | e | e
    · exact ⟨_, _, h2.cells, by decide⟩
    · obtain ⟨cs, hc⟩ := h2.keys.block k e.symm; exact ⟨cs, _, hc, by decide⟩
    · obtain ⟨cs, hc⟩ := h2.vals.block k e.symm; exact ⟨cs, _, hc, by decide⟩
  obtain ⟨cs, ty, hc, hne⟩ := hr'
  rcases hm k hmk with ⟨cs', h⟩ | ⟨es, clock, h⟩
  · rw [hc] at h
    have := congrArg (fun o => match o with | some (Obj.cells _ t _) => t | _ => 0) h
    exact hne this
  · rw [hc] at h; cases h
theorem raddO {w wr : World} {K : Nat} {L : Cn} (h : RefO w K L wr) (hg : GoodC L) {p q b t : Int} (hb : FitsZ b) (ht : FitsZ t) (hl : L.length ≤ 1000) :
    Calls Try.prog 9 #[.pointer (some ⟨K, 0, none⟩), .agg #[.int .i64 p, .int .i64 q], .int .i64 b, .int .i64 t] wr fun e w' => e = .returned (.int .i64 (addC L (p, q) b t).2) ∧ RefO w K (addC L (p, q) b t).1 w' ∧ Kept (fun k => k = K) wr w' := by
  obtain ⟨v, u, h1⟩ := h
  refine (radd_any _ K v u L p q b t wr h1 hg hb ht hl).mono ?_
  rintro e w' ⟨rfl, v', u', h2, hk⟩
  exact ⟨rfl, ⟨v', u', h2⟩, hk⟩
theorem rgetO {w wr : World} {K : Nat} {L : Cn} (h : RefO w K L wr) {p q : Int} (hl : L.length ≤ 1000000) :
    Calls Try.prog 11 #[.pointer (some ⟨K, 0, none⟩), .agg #[.int .i64 p, .int .i64 q]] wr fun e w' => e = .returned (.int .i64 (getC L (p, q))) ∧ Below wr.heap.size wr w' := by
  obtain ⟨v, u, h1⟩ := h
  refine (rget_any _ K v u L p q wr h1 hl).mono ?_
  rintro e w' ⟨rfl, n, rfl⟩
  exact ⟨rfl, below_drewN' ((Below.refl _ wr).alloc (Nat.le_refl _) _) _⟩
/-- Both, side by side. -/
structure Two (w : World) (K K2 : Nat) (L M : Cn) (wr : World) : Prop where
  own : Own1 w K L wr
  ref : RefO w K2 M wr
  good : GoodC M
theorem Two.later {w wr w' : World} {K K2 : Nat} {L M : Cn} (h : Two w K K2 L M wr) (hb : Below wr.heap.size wr w') : Two w K K2 L M w' := ⟨h.own.later hb, h.ref.later hb, h.good⟩
theorem addT {w wr : World} {K K2 : Nat} {L M : Cn} (h : Two w K K2 L M wr) {p q b t : Int} (hp : FitsPr (p, q)) (hb : FitsZ b) (ht : FitsZ t) (hl : L.length ≤ 1048576) :
    Calls Try.prog 8 #[.pointer (some ⟨K, 0, none⟩), .agg #[.int .i64 p, .int .i64 q], .int .i64 b, .int .i64 t] wr fun e w' => e = .returned (.int .i64 (addC L (p, q) b t).2) ∧ Two w K K2 (addC L (p, q) b t).1 M w' := by
  have hg := h.own.good.add hp b t
  obtain ⟨⟨⟨m, h1, h2⟩, hgo, hbel⟩, hr, hgM⟩ := h
  refine (cadd_any K m L p q b t wr h1 hgo hp hb ht hl).mono ?_
  rintro e w' ⟨rfl, hret⟩
  refine ⟨rfl, Own1.of_ret h1 h2 hbel hg hret, ?_, hgM⟩
  obtain ⟨m', _, hk, _⟩ := hret
  exact hr.otherC h1 hk
theorem raddT {w wr : World} {K K2 : Nat} {L M : Cn} (h : Two w K K2 L M wr) {p q b t : Int} (hp : FitsPr (p, q)) (hb : FitsZ b) (ht : FitsZ t) (hl : M.length ≤ 1000) :
    Calls Try.prog 9 #[.pointer (some ⟨K2, 0, none⟩), .agg #[.int .i64 p, .int .i64 q], .int .i64 b, .int .i64 t] wr fun e w' => e = .returned (.int .i64 (addC M (p, q) b t).2) ∧ Two w K K2 L (addC M (p, q) b t).1 w' := by
  refine (raddO h.ref h.good hb ht hl).mono ?_
  rintro e w' ⟨rfl, hr, hk⟩
  exact ⟨rfl, h.own.other h.ref hk, hr, h.good.add hp b t⟩
theorem add_eg1 : addC [] (97, 98) 2 3 = ([((97, 98), 6)], 0) := by rfl
theorem add_eg2 : addC [((97, 98), 6)] (97, 98) (-2) 3 = ([], 0) := by rfl
end Go.Proofs.Ythgjpkemgpkknaa
