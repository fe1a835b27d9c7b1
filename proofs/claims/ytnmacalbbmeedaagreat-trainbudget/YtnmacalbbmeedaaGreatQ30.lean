/- Texts in one: LzObj, LzPlace. -/
import Derived.Test.YtnmacalbbmeedaaGreatQ24
import Derived.Test.YtnmacalbbmeedaaGreatQ28
import Derived.Test.YtnmacalbbmeedaaGreatQ29
/- A queue in memory; New, Len, Known, Stats; where an entry is placed. -/
namespace Go.Proofs.YtnmacalbbmeedaaGreat
open Go.RowKit Go.Maps Go.Shelf
open Go.Sort (grow grow_empty grow_grow alloc_eq_grow heap_grow_old)

set_option maxRecDepth 100000 in
/-- A new block is written over. -/
theorem Grown.setCell {a b : World} (h : Grown a b) {p : Addr} (hp : a.heap.size ≤ p.block) (u : Value) : Grown a (b.setCell p u) := by
  obtain ⟨q, os, rfl⟩ := h
  have hs : (a.drewN q).heap = a.heap := rfl
  refine ⟨q, os.modify (p.block - a.heap.size) (fun
      | .cells c elem frozen => .cells (if p.spot.isSome then c else c.setIfInBounds p.off u) elem frozen
      | o => o), ?_⟩
  unfold World.setCell grow
  congr 1
  apply Array.ext_getElem?
  intro i
  rw [Array.getElem?_modify, hs, Array.getElem?_append, Array.getElem?_append, Array.getElem?_modify]
  by_cases hi : i < a.heap.size
  · rw [if_neg (by omega), if_pos hi, if_pos hi]
  · rw [if_neg hi, if_neg hi]
    by_cases e : p.block = i
    · rw [if_pos e, if_pos (by omega)]
      congr 1
    · rw [if_neg e, if_neg (by omega)]
set_option maxRecDepth 100000 in
/-- One result that lies in memory. -/
theorem results_cell1z {fn : Func} {p : Tmp} {ty : TypeId} (h : fn.results = #[.cell p ty]) (tmps : Array Value) (P : Program) (w : World) :
    (results fn tmps).run P w = ((asAddr (tmps.getD p undef)).run P w).andThen fun a w₁ => (loadVar ty a).run P w₁ := by
  simp only [results, h]
  simp [Sem.run_bind, Result.andThen]
  done
/-- Of what kind a block is. -/
def kindOf : Option Obj → Nat
  | some (.cells _ t _) => t + 1
  | _ => 0
set_option maxRecDepth 100000 in
theorem kind_cells {o : Option Obj} {cs : Array Value} {t : TypeId} {fr : Nat × Nat} (h : o = some (.cells cs t fr)) : kindOf o = t + 1 := by rw [h]; rfl
abbrev lzBet (T c : Nat) (tv : Value) (tb : Option Nat) (k : Nat) : Prop := mineT T tv tb k ∨ k = c
set_option maxRecDepth 100000 in
theorem lz_bet (T : Nat) (tv : Value) (tb : Option Nat) (J : List Joint) (c : Nat) : Bet 69 #[.pointer (some ⟨c, 0, none⟩)] (entBetter J) (fun W => Env W T tv tb J c) (lzBet T c tv tb) where
  enter := enters_of Tryz.func69 (by kernel_rfl) rfl
  ranks := entBetter_ranks J
  calls := fun a b w ha hb he => ordc_any T tv tb J c a b w he ha hb
  keep := fun w w' h hs hk => h.kept hk
  lt := fun w h k hk => by
    rcases hk with hk | rfl
    · exact h.tab.lt k hk
    · exact (Array.getElem?_eq_some_iff.1 h.box).1
/-- The blocks of a queue but its table's. -/
def mineL (K H m : Nat) (v : Value) (k : Nat) : Prop := k = K ∨ k = m ∨ mine H v k
/-- Block K is a queue over the table T: its heap is block H, with the entries A in v, its map m; the order reads the table from c. -/
structure LzIn (w : World) (K T H c m : Nat) (v : Value) (A : List Ent) (hu hk : Int) (tv : Value) (tb : Option Nat) (J : List Joint) (q : Qm) : Prop where
  box : w.heap[K]? = some (.cells #[.pointer (some ⟨T, 0, none⟩), .pointer (some ⟨H, 0, none⟩), .map (some m), .int .i64 0, .int .i64 0, .int .i64 q.pu, .int .i64 q.po, .int .i64 q.pk, .int .i64 q.re] 116 (0, 0))
  env : Env w T tv tb J c
  heap : Hp w 0 H (ordV c) v A hu hk
  ord : HeapFrom (entBetter J) A 0
  map : CMap w m q.known
  perm : A.Perm (q.ents.map entOf)
  sane : SaneQ J q
  hu : 0 ≤ hu ∧ hu ≤ q.pu
  sep : tb ≠ some m
variable {w w' : World} {K T H c m : Nat} {v : Value} {A : List Ent} {hu hk : Int} {tv : Value} {tb : Option Nat} {J : List Joint} {q q' : Qm}
set_option maxRecDepth 100000 in
theorem LzIn.kindK (h : LzIn w K T H c m v A hu hk tv tb J q) : kindOf w.heap[K]? = 116 + 1 := kind_cells h.box
set_option maxRecDepth 100000 in
theorem LzIn.kindH (h : LzIn w K T H c m v A hu hk tv tb J q) : kindOf w.heap[H]? = 142 + 1 := kind_cells h.heap.box
set_option maxRecDepth 100000 in
theorem LzIn.kindR (h : LzIn w K T H c m v A hu hk tv tb J q) {k : Nat} (e : some k = v.ownBlock) : kindOf w.heap[k]? = 111 + 1 := by
  obtain ⟨cs, hc⟩ := h.heap.row.block k e.symm
  exact kind_cells hc
set_option maxRecDepth 100000 in
theorem LzIn.kindM (h : LzIn w K T H c m v A hu hk tv tb J q) : kindOf w.heap[m]? = 0 := by
  obtain ⟨es, cl, hm⟩ := h.map.block
  rw [hm]; rfl
set_option maxRecDepth 100000 in
theorem LzIn.kindT (h : LzIn w K T H c m v A hu hk tv tb J q) {k : Nat} (e : lzBet T c tv tb k) : kindOf w.heap[k]? = 107 + 1 ∨ kindOf w.heap[k]? = 129 + 1 ∨ kindOf w.heap[k]? = 66 + 1 ∨ (kindOf w.heap[k]? = 0 ∧ k ≠ m) := by
  rcases e with (rfl | e | e) | rfl
  · exact .inl (kind_cells h.env.tab.cells)
  · obtain ⟨cs, hc⟩ := h.env.tab.row.block k e.symm
    exact .inr (.inl (kind_cells hc))
  · refine .inr (.inr (.inr ⟨?_, fun e2 => h.sep (by rw [← e, e2])⟩))
    obtain ⟨L, _, hm⟩ := h.env.tab.map
    rw [← e] at hm
    obtain ⟨es, cl, hb, _⟩ := hm
    rw [hb]; rfl
  · exact .inr (.inr (.inl (kind_cells h.env.box)))
set_option maxRecDepth 100000 in
theorem LzIn.apart (h : LzIn w K T H c m v A hu hk tv tb J q) : (∀ k, lzBet T c tv tb k → ¬ mineL K H m v k) ∧ ¬ mine H v K ∧ ¬ mine H v m ∧ K ≠ m := by
  have hK := h.kindK
  have hH := h.kindH
  have hM := h.kindM
  refine ⟨fun k hk => ?_, ?_, ?_, ?_⟩
  · have h1 := h.kindT hk
    rintro (rfl | rfl | rfl | e)
    · rw [hK] at h1; revert h1; simp
    · rw [hM] at h1
      rcases h1 with h1 | h1 | h1 | h1
      · revert h1; decide
      · revert h1; decide
      · revert h1; decide
      · exact h1.2 rfl
    · rw [hH] at h1; revert h1; simp
    · rw [h.kindR e] at h1; revert h1; simp
  · rintro (rfl | e)
    · rw [hK] at hH; revert hH; decide
    · have := h.kindR e; rw [hK] at this; revert this; decide
  · rintro (rfl | e)
    · rw [hM] at hH; revert hH; decide
    · have := h.kindR e; rw [hM] at this; revert this; decide
  · rintro rfl
    rw [hM] at hK; revert hK; decide
set_option maxRecDepth 100000 in
theorem LzIn.hap (h : LzIn w K T H c m v A hu hk tv tb J q) : ∀ k, mine H v k → ¬ lzBet T c tv tb k := fun k h1 h2 => h.apart.1 k h2 (.inr (.inr h1))
set_option maxRecDepth 100000 in
theorem LzIn.ltK (h : LzIn w K T H c m v A hu hk tv tb J q) : K < w.heap.size := (Array.getElem?_eq_some_iff.1 h.box).1
set_option maxRecDepth 100000 in
theorem LzIn.lt (h : LzIn w K T H c m v A hu hk tv tb J q) : ∀ k, mineL K H m v k ∨ lzBet T c tv tb k → k < w.heap.size := by
  rintro k ((rfl | rfl | rfl | e) | e)
  · exact h.ltK
  · exact h.map.lt
  · exact h.heap.ltK
  · exact (h.heap.row.lt k e.symm).2
  · exact (lz_bet T tv tb J c).lt w h.env k e
set_option maxRecDepth 100000 in
theorem LzIn.kept (h : LzIn w K T H c m v A hu hk tv tb J q) (hkp : ∀ k, k < w.heap.size → mineL K H m v k ∨ lzBet T c tv tb k → w'.heap[k]? = w.heap[k]?) : LzIn w' K T H c m v A hu hk tv tb J q :=
  ⟨(hkp K h.ltK (.inl (.inl rfl))).trans h.box, h.env.kept fun k h1 h2 => hkp k h1 (.inr h2), h.heap.kept fun k h1 h2 => hkp k h1 (.inl (.inr (.inr h2))), h.ord, h.map.kept (hkp m h.map.lt (.inl (.inr (.inl rfl)))), h.perm, h.sane, h.hu, h.sep⟩
set_option maxRecDepth 100000 in
theorem LzIn.below (h : LzIn w K T H c m v A hu hk tv tb J q) (hb : Below w.heap.size w w') : LzIn w' K T H c m v A hu hk tv tb J q := h.kept fun k hk _ => hb.block k hk
set_option maxRecDepth 100000 in
theorem LzIn.grown (h : LzIn w K T H c m v A hu hk tv tb J q) (hg : Grown w w') : LzIn w' K T H c m v A hu hk tv tb J q := h.below hg.below
set_option maxRecDepth 100000 in
/-- The queue's own block alone is written over. -/
theorem LzIn.turn (h : LzIn w K T H c m v A hu hk tv tb J q) (hb : w'.heap[K]? = some (.cells #[.pointer (some ⟨T, 0, none⟩), .pointer (some ⟨H, 0, none⟩), .map (some m), .int .i64 0, .int .i64 0, .int .i64 q'.pu, .int .i64 q'.po, .int .i64 q'.pk, .int .i64 q'.re] 116 (0, 0)))
    (hkp : ∀ k, k < w.heap.size → k ≠ K → w'.heap[k]? = w.heap[k]?) (he : q'.ents = q.ents) (hm : q'.known = q.known) (hs : SaneQ J q') (hhu : hu ≤ q'.pu) : LzIn w' K T H c m v A hu hk tv tb J q' := by
  obtain ⟨a1, a2, a3, a4⟩ := h.apart
  have hne : ∀ k, lzBet T c tv tb k → k ≠ K := fun k h1 e => a1 k h1 (.inl e)
  refine ⟨hb, h.env.kept fun k h1 h2 => hkp k h1 (hne k h2), h.heap.kept fun k h1 h2 => hkp k h1 (fun e => a2 (e ▸ h2)), h.ord, by rw [hm]; exact h.map.kept (hkp m h.map.lt fun e => a4 e.symm), by rw [he]; exact h.perm, hs, ⟨h.hu.1, hhu⟩, h.sep⟩
set_option maxRecDepth 100000 in
theorem LzIn.cells (h : LzIn w K T H c m v A hu hk tv tb J q) : w.cell? ⟨K, 0, none⟩ = some (.pointer (some ⟨T, 0, none⟩)) ∧ w.cell? ⟨K, 1, none⟩ = some (.pointer (some ⟨H, 0, none⟩)) ∧ w.cell? ⟨K, 2, none⟩ = some (.map (some m)) ∧ w.cell? ⟨K, 5, none⟩ = some (.int .i64 q.pu) ∧ w.cell? ⟨K, 6, none⟩ = some (.int .i64 q.po) ∧ w.cell? ⟨K, 7, none⟩ = some (.int .i64 q.pk) ∧ w.cell? ⟨K, 8, none⟩ = some (.int .i64 q.re) := by
  refine ⟨?_, ?_, ?_, ?_, ?_, ?_, ?_⟩ <;> · rw [cell_of_row w K _ _ 116 (0, 0) h.box]; rfl
set_option maxRecDepth 100000 in
theorem LzIn.frozen (h : LzIn w K T H c m v A hu hk tv tb J q) (i : Nat) : w.frozen? ⟨K, i, none⟩ = false := Lib.frozen_of_heap h.box _
set_option maxRecDepth 100000 in
theorem LzIn.len (h : LzIn w K T H c m v A hu hk tv tb J q) : A.length = q.ents.length := by rw [h.perm.length_eq, List.length_map]
/-! New. -/
def LNewRet (w : World) (T : Nat) (tv : Value) (tb : Option Nat) (J : List Joint) (e : Ending) (w' : World) : Prop :=
  ∃ K H c m, e = .returned (.pointer (some ⟨K, 0, none⟩)) ∧ LzIn w' K T H c m (.slice none 0 0) [] 0 0 tv tb J newQ ∧ Below w.heap.size w w' ∧ ∀ k, mineL K H m (.slice none 0 0) k ∨ k = c → w.heap.size ≤ k
set_option maxRecDepth 100000 in
theorem lnew_any (T : Nat) (tv : Value) (tb : Option Nat) (J : List Joint) (w : World) (h : Stab w T tv tb J) (hJ : J.length ≤ 1000000) :
    Calls Tryz.prog 30 #[.pointer (some ⟨T, 0, none⟩)] w (LNewRet w T tv tb J) := by
  obtain ⟨w1, hw1⟩ : ∃ w1, w.alloc (.cells #[.pointer (some ⟨T, 0, none⟩)] 66) = w1 := ⟨_, rfl⟩
  obtain ⟨w2, hw2⟩ : ∃ w2, w1.alloc (.cells #[ordV w.heap.size, .slice none 0 0, .int .i64 0, .int .i64 0] 142) = w2 := ⟨_, rfl⟩
  obtain ⟨w3, hw3⟩ : ∃ w3, w2.alloc (.map #[] 0) = w3 := ⟨_, rfl⟩
  obtain ⟨w4, hw4⟩ : ∃ w4, w3.alloc (.cells #[.pointer (some ⟨T, 0, none⟩), .pointer (some ⟨w1.heap.size, 0, none⟩), .map (some w2.heap.size), .int .i64 0, .int .i64 0, .int .i64 0, .int .i64 0, .int .i64 0, .int .i64 0] 116) = w4 := ⟨_, rfl⟩
  have z1 : w1.heap.size = w.heap.size + 1 := by rw [← hw1, World.size_alloc]
  have z2 : w2.heap.size = w.heap.size + 2 := by rw [← hw2, World.size_alloc, z1]
  have z3 : w3.heap.size = w.heap.size + 3 := by rw [← hw3, World.size_alloc, z2]
  have b1 : Below w.heap.size w w1 := by rw [← hw1]; exact (Below.refl _ w).alloc (Nat.le_refl _) _
  have b2 : Below w1.heap.size w1 w2 := by rw [← hw2]; exact (Below.refl _ w1).alloc (Nat.le_refl _) _
  have b3 : Below w2.heap.size w2 w3 := by rw [← hw3]; exact (Below.refl _ w2).alloc (Nat.le_refl _) _
  have b4 : Below w3.heap.size w3 w4 := by rw [← hw4]; exact (Below.refl _ w3).alloc (Nat.le_refl _) _
  have b34 := b3.trans (b4.mono (by omega))
  have b24 := b2.trans (b34.mono (by omega))
  have hE : Env w1 T tv tb J w.heap.size := by rw [← hw1]; exact env_new h hJ
  have hH : Hp w2 w1.heap.size w1.heap.size (ordV w.heap.size) (.slice none 0 0) [] 0 0 := by rw [← hw2]; exact hp_new _ _
  have hM : CMap w3 w2.heap.size [] := by rw [← hw3]; exact cmap_made w2
  have hbox : w4.heap[w3.heap.size]? = some (.cells #[.pointer (some ⟨T, 0, none⟩), .pointer (some ⟨w1.heap.size, 0, none⟩), .map (some w2.heap.size), .int .i64 0, .int .i64 0, .int .i64 0, .int .i64 0, .int .i64 0, .int .i64 0] 116 (0, 0)) := by rw [← hw4]; exact heap_alloc_new w3 _
  have hsep : tb ≠ some w2.heap.size := fun e => by
    have := h.lt w2.heap.size (.inr (.inr e.symm))
    omega
  have HL : Hid (LNewRet w T tv tb J (.returned (.pointer (some ⟨w3.heap.size, 0, none⟩))) w4) := Lib.hid
    ⟨w3.heap.size, w1.heap.size, w.heap.size, w2.heap.size, rfl,
      ⟨hbox, hE.kept fun k hk _ => b24.block k hk, (hH.below b34).mono (Nat.zero_le _), heap_empty _, hM.kept (b4.block _ (by omega)), List.Perm.refl _, saneQ_new J, by simp [newQ], hsep⟩,
      b1.trans (b24.mono (by omega)), by
        rintro k ((rfl | rfl | rfl | e) | rfl)
        · omega
        · omega
        · omega
        · simp [Value.ownBlock] at e
        · omega⟩
  have hmm := @run_makeMap Tryz.prog
  have cO := order_any T w
  have cN := hnew_any 69 #[.pointer (some ⟨w.heap.size, 0, none⟩)] w1
  rw [hw1] at cO
  rw [hw2] at cN
  clear h hE hH hM hbox hsep b1 b2 b3 b4 b34 b24
  go_enter Tryz.func30, Tryz.ntmps30
  go_wp2_with fail
  refine cO.mono ?_
  rintro e w5 ⟨rfl, rfl⟩
  go_wp2_with fail
  refine cN.mono ?_
  rintro e w6 ⟨rfl, rfl⟩
  clear hw1 hw2 cO cN z1 z2 z3
  go_wp2
  go_ret
  exact HL.out
/-! Len, Known, Stats. -/
set_option maxRecDepth 100000 in
theorem llen_any (h : LzIn w K T H c m v A hu hk tv tb J q) : Calls Tryz.prog 75 #[.pointer (some ⟨K, 0, none⟩)] w fun e w' => e = .returned (.int .i64 (q.ents.length : Int)) ∧ w' = w := by
  obtain ⟨c0, c1, c2, c3, c4, c5, c6⟩ := h.cells
  have cL := hlen_any h.heap
  rw [h.len] at cL
  clear h
  go_enter Tryz.func75, Tryz.ntmps75
  go_wp2_with fail
  refine cL.mono ?_
  rintro e w1 ⟨rfl, rfl⟩
  go_wp2
  go_ret
  exact ⟨rfl, rfl⟩
set_option maxRecDepth 100000 in
theorem lknown_any (h : LzIn w K T H c m v A hu hk tv tb J q) : Calls Tryz.prog 76 #[.pointer (some ⟨K, 0, none⟩)] w fun e w' => e = .returned (.int .i64 (q.known.length : Int)) ∧ w' = w := by
  obtain ⟨c0, c1, c2, c3, c4, c5, c6⟩ := h.cells
  have hl := fun ty => len_c (m := some m) (w := w) (L := q.known) h.map ty
  clear h
  go_enter Tryz.func76, Tryz.ntmps76
  go_wp2
  go_ret
  exact ⟨rfl, rfl⟩
def statsV (a b d f : Int) : Value := .agg #[.int .i64 0, .int .i64 0, .int .i64 a, .int .i64 b, .int .i64 d, .int .i64 f]
set_option maxRecDepth 100000 in
theorem lstats_any (h : LzIn w K T H c m v A hu hk tv tb J q) : Calls Tryz.prog 37 #[.pointer (some ⟨K, 0, none⟩)] w fun e w' => e = .returned (statsV q.pu q.po q.pk q.re) ∧ Grown w w' := by
  obtain ⟨c0, c1, c2, c3, c4, c5, c6⟩ := h.cells
  have d3 : w.cell? ⟨K, 3, none⟩ = some (.int .i64 0) := by rw [cell_of_row w K _ _ 116 (0, 0) h.box]; rfl
  have d4 : w.cell? ⟨K, 4, none⟩ = some (.int .i64 0) := by rw [cell_of_row w K _ _ 116 (0, 0) h.box]; rfl
  obtain ⟨wa, hwa⟩ : ∃ wa, w.alloc (.cells #[.int .i64 0, .int .i64 0, .int .i64 0, .int .i64 0, .int .i64 0, .int .i64 0] 29) = wa := ⟨_, rfl⟩
  have hg : Grown w wa := by rw [← hwa]; exact (Grown.refl w).alloc _
  have e0 := hg.cell d3
  have e1 := hg.cell d4
  have e2 := hg.cell c3
  have e3 := hg.cell c4
  have e4 := hg.cell c5
  have e5 := hg.cell c6
  obtain ⟨N, hN⟩ : ∃ N, w.heap.size = N := ⟨_, rfl⟩
  have HN := Lib.hid hN
  have hba : wa.heap[N]? = some (.cells #[.int .i64 0, .int .i64 0, .int .i64 0, .int .i64 0, .int .i64 0, .int .i64 0] 29 (0, 0)) := by rw [← hwa, ← hN]; exact heap_alloc_new w _
  have HBA := Lib.hid hba
  have n0 : wa.cell? ⟨N, 0, none⟩ = some (.int .i64 0) := by rw [cell_of_row wa N _ _ 29 (0, 0) hba]; rfl
  have n1 : wa.cell? ⟨N, 1, none⟩ = some (.int .i64 0) := by rw [cell_of_row wa N _ _ 29 (0, 0) hba]; rfl
  have n2 : wa.cell? ⟨N, 2, none⟩ = some (.int .i64 0) := by rw [cell_of_row wa N _ _ 29 (0, 0) hba]; rfl
  have n3 : wa.cell? ⟨N, 3, none⟩ = some (.int .i64 0) := by rw [cell_of_row wa N _ _ 29 (0, 0) hba]; rfl
  have n4 : wa.cell? ⟨N, 4, none⟩ = some (.int .i64 0) := by rw [cell_of_row wa N _ _ 29 (0, 0) hba]; rfl
  have n5 : wa.cell? ⟨N, 5, none⟩ = some (.int .i64 0) := by rw [cell_of_row wa N _ _ 29 (0, 0) hba]; rfl
  have m0 : wa.frozen? ⟨N, 0, none⟩ = false := Lib.frozen_of_heap hba _
  have m1 : wa.frozen? ⟨N, 1, none⟩ = false := Lib.frozen_of_heap hba _
  have m2 : wa.frozen? ⟨N, 2, none⟩ = false := Lib.frozen_of_heap hba _
  have m3 : wa.frozen? ⟨N, 3, none⟩ = false := Lib.frozen_of_heap hba _
  have m4 : wa.frozen? ⟨N, 4, none⟩ = false := Lib.frozen_of_heap hba _
  have m5 : wa.frozen? ⟨N, 5, none⟩ = false := Lib.frozen_of_heap hba _
  have HG := Lib.hid hg
  generalize q.pu = a1 at *
  generalize q.po = a2 at *
  generalize q.pk = a3 at *
  generalize q.re = a4 at *
  clear h hg hba
  go_enter Tryz.func37, Tryz.ntmps37
  go_wp2
  have h0 := heap_setCell_at HBA.out (i := 0) (.int .i64 0)
  have h1 := heap_setCell_at h0 (i := 1) (.int .i64 0)
  have h2 := heap_setCell_at h1 (i := 2) (.int .i64 a1)
  have h3 := heap_setCell_at h2 (i := 3) (.int .i64 a2)
  have h4 := heap_setCell_at h3 (i := 4) (.int .i64 a3)
  have h5 := heap_setCell_at h4 (i := 5) (.int .i64 a4)
  have x0 := cell_of_row _ N 0 _ 29 (0, 0) h5
  have x1 := cell_of_row _ N 1 _ 29 (0, 0) h5
  have x2 := cell_of_row _ N 2 _ 29 (0, 0) h5
  have x3 := cell_of_row _ N 3 _ 29 (0, 0) h5
  have x4 := cell_of_row _ N 4 _ 29 (0, 0) h5
  have x5 := cell_of_row _ N 5 _ 29 (0, 0) h5
  refine bodyPost_ret (v := statsV a1 a2 a3 a4) (by rw [results_cell1z rfl]; simp [go_sem, statsV, x0, x1, x2, x3, x4, x5]) rfl ?_
  have hN : w.heap.size ≤ N := Nat.le_of_eq HN.out
  exact ⟨rfl, (((((HG.out.setCell (p := ⟨N, 0, none⟩) hN _).setCell (p := ⟨N, 1, none⟩) hN _).setCell (p := ⟨N, 2, none⟩) hN _).setCell (p := ⟨N, 3, none⟩) hN _).setCell (p := ⟨N, 4, none⟩) hN _).setCell (p := ⟨N, 5, none⟩) hN _⟩
end Go.Proofs.YtnmacalbbmeedaaGreat
/- Where an entry of a queue is placed. -/
namespace Go.Proofs.YtnmacalbbmeedaaGreat
open Go.RowKit Go.Maps Go.Shelf
open Go.Sort (grow grow_empty grow_grow alloc_eq_grow heap_grow_old)
variable {w w' : World} {K T H c m : Nat} {v : Value} {A : List Ent} {hu hk : Int} {tv : Value} {tb : Option Nat} {J : List Joint} {q q' : Qm}

def presentOf (J : List Joint) (id : Int) : Int := if thereOf J id = true then id else -1
def placeOf (J : List Joint) (x : Item) : Ent := (x.1, x.2.1, x.2.2, presentOf J x.1, presentOf J x.2.1, x.2.2)
set_option maxRecDepth 100000 in
theorem place_there {J : List Joint} {x : Item} (h1 : thereOf J x.1 = true) (h2 : thereOf J x.2.1 = true) : placeOf J x = entOf x := by
  unfold placeOf presentOf entOf
  rw [if_pos h1, if_pos h2]
/-- What the queue's box says of its table. -/
structure LzT (w : World) (K T : Nat) (tv : Value) (tb : Option Nat) (J : List Joint) : Prop where
  cell : w.cell? ⟨K, 0, none⟩ = some (.pointer (some ⟨T, 0, none⟩))
  tab : Stab w T tv tb J
  few : J.length ≤ 1000000
set_option maxRecDepth 100000 in
theorem LzT.grown (h : LzT w K T tv tb J) (hg : Grown w w') : LzT w' K T tv tb J := ⟨hg.cell h.cell, h.tab.grown hg, h.few⟩
set_option maxRecDepth 100000 in
theorem LzIn.tee (h : LzIn w K T H c m v A hu hk tv tb J q) : LzT w K T tv tb J := ⟨h.cells.1, h.env.tab, h.env.few⟩
set_option maxRecDepth 100000 in
set_option maxHeartbeats 1000000 in
theorem present_any (id : Int) (h : LzT w K T tv tb J) (hf : FitsN id) : Calls Tryz.prog 94 #[.pointer (some ⟨K, 0, none⟩), .int .i64 id] w fun e w' => e = .returned (.int .i64 (presentOf J id)) ∧ Grown w w' := by
  have c0 := h.cell
  have cT := textG_any T tv tb J id w h.tab h.few hf.1 hf.2
  unfold presentOf
  clear h
  generalize txtOf J id = s at *
  cases ht : thereOf J id with
  | true =>
    rw [ht] at cT
    rw [if_pos rfl]
    clear ht
    go_enter Tryz.func94, Tryz.ntmps94
    go_wp2_with fail
    refine cT.mono ?_
    rintro e w1 ⟨rfl, hg⟩
    have HG := Lib.hid hg
    clear hg
    go_wp2
    go_ret
    exact ⟨rfl, HG.out⟩
  | false =>
    rw [ht] at cT
    rw [if_neg (by simp)]
    clear ht
    go_enter Tryz.func94, Tryz.ntmps94
    go_wp2_with fail
    refine cT.mono ?_
    rintro e w1 ⟨rfl, hg⟩
    have HG := Lib.hid hg
    clear hg
    go_wp2
    go_ret
    exact ⟨rfl, HG.out⟩
set_option maxRecDepth 100000 in
set_option maxHeartbeats 2000000 in
theorem place_any (x : Item) (h : LzT w K T tv tb J) (hf : FitsI x) : Calls Tryz.prog 74 #[.pointer (some ⟨K, 0, none⟩), itemV x] w fun e w' => e = .returned (entV (placeOf J x)) ∧ Grown w w' := by
  obtain ⟨a, b, n⟩ := x
  obtain ⟨N, hN⟩ : ∃ N, w.heap.size = N := ⟨_, rfl⟩
  obtain ⟨wa, hwa⟩ : ∃ wa, w.alloc (.cells #[.int .i64 a, .int .i64 b, .int .i64 n] 79) = wa := ⟨_, rfl⟩
  obtain ⟨wb, hwb⟩ : ∃ wb, wa.alloc (.cells #[.int .i64 0, .int .i64 0, .int .i64 0, .int .i64 0, .int .i64 0, .int .i64 0] 111) = wb := ⟨_, rfl⟩
  obtain ⟨wc, hwc⟩ : ∃ wc, wb.alloc (.cells #[.int .i64 a, .int .i64 b, .int .i64 n] 79) = wc := ⟨_, rfl⟩
  have za : wa.heap.size = N + 1 := by rw [← hwa, World.size_alloc, hN]
  have zb : wb.heap.size = N + 1 + 1 := by rw [← hwb, World.size_alloc, za]
  have ga : Grown w wa := by rw [← hwa]; exact (Grown.refl w).alloc _
  have gb : Grown w wb := by rw [← hwb]; exact ga.alloc _
  have gc : Grown w wc := by rw [← hwc]; exact gb.alloc _
  have na : wa.heap[N]? = some (.cells #[.int .i64 a, .int .i64 b, .int .i64 n] 79 (0, 0)) := by rw [← hwa, ← hN]; exact heap_alloc_new w _
  have nb : wb.heap[N]? = some (.cells #[.int .i64 a, .int .i64 b, .int .i64 n] 79 (0, 0)) := by rw [← hwb]; exact (Below.heap_alloc _ _ _ (by omega)).trans na
  have nc : wc.heap[N]? = some (.cells #[.int .i64 a, .int .i64 b, .int .i64 n] 79 (0, 0)) := by rw [← hwc]; exact (Below.heap_alloc _ _ _ (by omega)).trans nb
  have eb : wb.heap[N + 1]? = some (.cells #[.int .i64 0, .int .i64 0, .int .i64 0, .int .i64 0, .int .i64 0, .int .i64 0] 111 (0, 0)) := by rw [← hwb, ← za]; exact heap_alloc_new wa _
  have ec : wc.heap[N + 1]? = some (.cells #[.int .i64 0, .int .i64 0, .int .i64 0, .int .i64 0, .int .i64 0, .int .i64 0] 111 (0, 0)) := by rw [← hwc]; exact (Below.heap_alloc _ _ _ (by omega)).trans eb
  have dc : wc.heap[N + 1 + 1]? = some (.cells #[.int .i64 a, .int .i64 b, .int .i64 n] 79 (0, 0)) := by rw [← hwc, ← zb]; exact heap_alloc_new wb _
  have zc : wc.heap.size = N + 1 + 1 + 1 := by rw [← hwc, World.size_alloc, zb]
  have a0 : wb.cell? ⟨N, 0, none⟩ = some (.int .i64 a) := by rw [cell_of_row wb N _ _ 79 (0, 0) nb]; rfl
  have a1 : wb.cell? ⟨N, 1, none⟩ = some (.int .i64 b) := by rw [cell_of_row wb N _ _ 79 (0, 0) nb]; rfl
  have a2 : wb.cell? ⟨N, 2, none⟩ = some (.int .i64 n) := by rw [cell_of_row wb N _ _ 79 (0, 0) nb]; rfl
  have HT := Lib.hid (h.grown gc)
  have HGC := Lib.hid gc
  have HN := Lib.hid hN
  -- the boxes, in any world that has grown since
  have HX : Hid (∀ W, Grown wc W → W.heap[N]? = some (.cells #[.int .i64 a, .int .i64 b, .int .i64 n] 79 (0, 0)) ∧ W.heap[N + 1]? = some (.cells #[.int .i64 0, .int .i64 0, .int .i64 0, .int .i64 0, .int .i64 0, .int .i64 0] 111 (0, 0)) ∧ W.heap[N + 1 + 1]? = some (.cells #[.int .i64 a, .int .i64 b, .int .i64 n] 79 (0, 0))) := Lib.hid fun W hg => ⟨(hg.below.block N (by omega)).trans nc, (hg.below.block (N + 1) (by omega)).trans ec, (hg.below.block (N + 1 + 1) (by omega)).trans dc⟩
  have HS : Hid (∀ W, Grown wc W → W.cell? ⟨N, 0, none⟩ = some (.int .i64 a) ∧ W.cell? ⟨N, 1, none⟩ = some (.int .i64 b)) := Lib.hid fun W hg => ⟨by rw [cell_of_row W N _ _ 79 (0, 0) (HX.out W hg).1]; rfl, by rw [cell_of_row W N _ _ 79 (0, 0) (HX.out W hg).1]; rfl⟩
  have HS2 : Hid (∀ W x y, Grown wc W → ((W.setCell ⟨N + 1 + 1, 0, none⟩ x).setCell ⟨N + 1 + 1, 1, none⟩ y).cell? ⟨N, 0, none⟩ = some (.int .i64 a) ∧ ((W.setCell ⟨N + 1 + 1, 0, none⟩ x).setCell ⟨N + 1 + 1, 1, none⟩ y).cell? ⟨N, 1, none⟩ = some (.int .i64 b)) := Lib.hid fun W x y hg => by
    have h1 : ((W.setCell ⟨N + 1 + 1, 0, none⟩ x).setCell ⟨N + 1 + 1, 1, none⟩ y).heap[N]? = some (.cells #[.int .i64 a, .int .i64 b, .int .i64 n] 79 (0, 0)) := by
      rw [Below.heap_setCell _ ⟨N + 1 + 1, 1, none⟩ _ N (by show N ≠ N + 1 + 1; omega), Below.heap_setCell _ ⟨N + 1 + 1, 0, none⟩ _ N (by show N ≠ N + 1 + 1; omega)]
      exact (HX.out W hg).1
    exact ⟨by rw [cell_of_row _ N _ _ 79 (0, 0) h1]; rfl, by rw [cell_of_row _ N _ _ 79 (0, 0) h1]; rfl⟩
  have HD : Hid (∀ W, Grown wc W → W.cell? ⟨N + 1 + 1, 0, none⟩ = some (.int .i64 a) ∧ W.cell? ⟨N + 1 + 1, 1, none⟩ = some (.int .i64 b) ∧ W.frozen? ⟨N + 1 + 1, 0, none⟩ = false ∧ W.frozen? ⟨N + 1 + 1, 1, none⟩ = false) := Lib.hid fun W hg => ⟨by rw [cell_of_row W (N + 1 + 1) _ _ 79 (0, 0) (HX.out W hg).2.2]; rfl, by rw [cell_of_row W (N + 1 + 1) _ _ 79 (0, 0) (HX.out W hg).2.2]; rfl, Lib.frozen_of_heap (HX.out W hg).2.2 _, Lib.frozen_of_heap (HX.out W hg).2.2 _⟩
  have cP : ∀ id W, (id = a ∨ id = b) → Grown wc W → Calls Tryz.prog 94 #[.pointer (some ⟨K, 0, none⟩), .int .i64 id] W fun e w' => e = .returned (.int .i64 (presentOf J id)) ∧ Grown wc w' := fun id W hid hg =>
    (present_any id (HT.out.grown hg) (by rcases hid with rfl | rfl <;> first | exact hf.1 | exact hf.2.1)).mono fun e w' h => ⟨h.1, hg.trans h.2⟩
  have HCP := Lib.hid cP
  have hg0 := Grown.refl wc
  unfold itemV placeOf entV
  simp only
  obtain ⟨s0, s1⟩ := HS.out wc hg0
  clear h cP na nb nc eb ec dc ga gb gc hf zc
  go_enter Tryz.func74, Tryz.ntmps74
  go_wp2_with fail
  go_region_held3 (fun w' => w'.cell? ⟨N, 0, none⟩ = some (.int .i64 a) ∧ w'.cell? ⟨N, 1, none⟩ = some (.int .i64 b))
    (first | with_reducible exact ⟨s0, s1⟩ | with_reducible exact HS.out _ (by assumption) | with_reducible exact HS.out _ (Grown.drew (by assumption)) | with_reducible exact HS2.out _ _ _ (by assumption) | with_reducible exact HS2.out _ _ _ (Grown.drew (by assumption)))
    (first | (go_at_call 94
              refine (HCP.out _ _ (by first | exact .inl rfl | exact .inr rfl) (by first | assumption | exact Grown.drew (by assumption))).mono ?_
              rintro e w5 ⟨rfl, hg5⟩
              obtain ⟨d0, d1, f0, f1⟩ := HD.out w5 hg5))
  all_goals (
    obtain ⟨w6, hw6⟩ : ∃ w6, (w5.setCell ⟨N + 1 + 1, 0, none⟩ (.int .i64 (presentOf J a))).setCell ⟨N + 1 + 1, 1, none⟩ (.int .i64 (presentOf J b)) = w6 := ⟨_, rfl⟩
    rw [hw6]
    have hd6 := heap_setCell_at (heap_setCell_at (HX.out w5 hg5).2.2 (i := 0) (.int .i64 (presentOf J a))) (i := 1) (.int .i64 (presentOf J b))
    rw [hw6] at hd6
    have hn6 : w6.heap[N]? = some (.cells #[.int .i64 a, .int .i64 b, .int .i64 n] 79 (0, 0)) := by
      rw [← hw6, Below.heap_setCell _ ⟨N + 1 + 1, 1, none⟩ _ N (by show N ≠ N + 1 + 1; omega), Below.heap_setCell _ ⟨N + 1 + 1, 0, none⟩ _ N (by show N ≠ N + 1 + 1; omega)]
      exact (HX.out w5 hg5).1
    have he6 : w6.heap[N + 1]? = some (.cells #[.int .i64 0, .int .i64 0, .int .i64 0, .int .i64 0, .int .i64 0, .int .i64 0] 111 (0, 0)) := by
      rw [← hw6, Below.heap_setCell _ ⟨N + 1 + 1, 1, none⟩ _ (N + 1) (by show N + 1 ≠ N + 1 + 1; omega), Below.heap_setCell _ ⟨N + 1 + 1, 0, none⟩ _ (N + 1) (by show N + 1 ≠ N + 1 + 1; omega)]
      exact (HX.out w5 hg5).2.1
    have HG6 : Hid (Grown w w6) := Lib.hid (by
      rw [← hw6]
      have hle : w.heap.size ≤ N + 1 + 1 := by rw [HN.out]; omega
      exact ((HGC.out.trans hg5).setCell (p := ⟨N + 1 + 1, 0, none⟩) hle _).setCell (p := ⟨N + 1 + 1, 1, none⟩) hle _)
    have x0 : w6.cell? ⟨N, 0, none⟩ = some (.int .i64 a) := by rw [cell_of_row w6 N _ _ 79 (0, 0) hn6]; rfl
    have x1 : w6.cell? ⟨N, 1, none⟩ = some (.int .i64 b) := by rw [cell_of_row w6 N _ _ 79 (0, 0) hn6]; rfl
    have x2 : w6.cell? ⟨N, 2, none⟩ = some (.int .i64 n) := by rw [cell_of_row w6 N _ _ 79 (0, 0) hn6]; rfl
    have y0 : w6.cell? ⟨N + 1 + 1, 0, none⟩ = some (.int .i64 (presentOf J a)) := by rw [cell_of_row w6 (N + 1 + 1) _ _ 79 (0, 0) hd6]; rfl
    have y1 : w6.cell? ⟨N + 1 + 1, 1, none⟩ = some (.int .i64 (presentOf J b)) := by rw [cell_of_row w6 (N + 1 + 1) _ _ 79 (0, 0) hd6]; rfl
    have y2 : w6.cell? ⟨N + 1 + 1, 2, none⟩ = some (.int .i64 n) := by rw [cell_of_row w6 (N + 1 + 1) _ _ 79 (0, 0) hd6]; rfl
    have z0 : w6.cell? ⟨N + 1, 0, none⟩ = some (.int .i64 0) := by rw [cell_of_row w6 (N + 1) _ _ 111 (0, 0) he6]; rfl
    have k0 : w6.frozen? ⟨N + 1, 0, none⟩ = false := Lib.frozen_of_heap he6 _
    have z1 : w6.cell? ⟨N + 1, 1, none⟩ = some (.int .i64 0) := by rw [cell_of_row w6 (N + 1) _ _ 111 (0, 0) he6]; rfl
    have k1 : w6.frozen? ⟨N + 1, 1, none⟩ = false := Lib.frozen_of_heap he6 _
    have z2 : w6.cell? ⟨N + 1, 2, none⟩ = some (.int .i64 0) := by rw [cell_of_row w6 (N + 1) _ _ 111 (0, 0) he6]; rfl
    have k2 : w6.frozen? ⟨N + 1, 2, none⟩ = false := Lib.frozen_of_heap he6 _
    have z3 : w6.cell? ⟨N + 1, 3, none⟩ = some (.int .i64 0) := by rw [cell_of_row w6 (N + 1) _ _ 111 (0, 0) he6]; rfl
    have k3 : w6.frozen? ⟨N + 1, 3, none⟩ = false := Lib.frozen_of_heap he6 _
    have z4 : w6.cell? ⟨N + 1, 4, none⟩ = some (.int .i64 0) := by rw [cell_of_row w6 (N + 1) _ _ 111 (0, 0) he6]; rfl
    have k4 : w6.frozen? ⟨N + 1, 4, none⟩ = false := Lib.frozen_of_heap he6 _
    have z5 : w6.cell? ⟨N + 1, 5, none⟩ = some (.int .i64 0) := by rw [cell_of_row w6 (N + 1) _ _ 111 (0, 0) he6]; rfl
    have k5 : w6.frozen? ⟨N + 1, 5, none⟩ = false := Lib.frozen_of_heap he6 _
    have HE6 := Lib.hid he6
    clear hg5 d0 d1 f0 f1 hd6 hn6 he6 hw6 s0 s1 hg0
    go_wp2
    have h0 := heap_setCell_at HE6.out (i := 0) (.int .i64 a)
    have h1 := heap_setCell_at h0 (i := 1) (.int .i64 b)
    have h2 := heap_setCell_at h1 (i := 2) (.int .i64 n)
    have h3 := heap_setCell_at h2 (i := 3) (.int .i64 (presentOf J a))
    have h4 := heap_setCell_at h3 (i := 4) (.int .i64 (presentOf J b))
    have h5 := heap_setCell_at h4 (i := 5) (.int .i64 n)
    have q0 := cell_of_row _ (N + 1) 0 _ 111 (0, 0) h5
    have q1 := cell_of_row _ (N + 1) 1 _ 111 (0, 0) h5
    have q2 := cell_of_row _ (N + 1) 2 _ 111 (0, 0) h5
    have q3 := cell_of_row _ (N + 1) 3 _ 111 (0, 0) h5
    have q4 := cell_of_row _ (N + 1) 4 _ 111 (0, 0) h5
    have q5 := cell_of_row _ (N + 1) 5 _ 111 (0, 0) h5
    refine bodyPost_ret (v := .agg #[.int .i64 a, .int .i64 b, .int .i64 n, .int .i64 (presentOf J a), .int .i64 (presentOf J b), .int .i64 n]) (by rw [results_cell1z rfl]; simp [go_sem, q0, q1, q2, q3, q4, q5]) rfl ?_
    have hle : w.heap.size ≤ N + 1 := by rw [HN.out]; omega
    exact ⟨rfl, (((((HG6.out.setCell (p := ⟨N + 1, 0, none⟩) hle _).setCell (p := ⟨N + 1, 1, none⟩) hle _).setCell (p := ⟨N + 1, 2, none⟩) hle _).setCell (p := ⟨N + 1, 3, none⟩) hle _).setCell (p := ⟨N + 1, 4, none⟩) hle _).setCell (p := ⟨N + 1, 5, none⟩) hle _⟩)
end Go.Proofs.YtnmacalbbmeedaaGreat
