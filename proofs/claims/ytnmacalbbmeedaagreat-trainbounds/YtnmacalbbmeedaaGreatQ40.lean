/- Texts in one: TrM. -/
import Derived.Test.YtnmacalbbmeedaaGreatQ26
import Derived.Test.YtnmacalbbmeedaaGreatQ35
import Derived.Test.YtnmacalbbmeedaaGreatQ37
import Derived.Test.YtnmacalbbmeedaaGreatQ38
import Derived.Test.YtnmacalbbmeedaaGreatQ39
/- A learner's three objects in memory: the index, the queue, and its table of symbols. -/
namespace Go.Proofs.YtnmacalbbmeedaaGreat
open Go.RowKit Go.Maps Go.Shelf
open Go.Sort (grow grow_empty grow_grow alloc_eq_grow heap_grow_old)

set_option maxRecDepth 100000 in
theorem better_more {J : List Joint} (p : Int × Int) {x y : Item} (hx : thereOf J x.1 = true ∧ thereOf J x.2.1 = true) (hy : thereOf J y.1 = true ∧ thereOf J y.2.1 = true) : betterOf (moreJ J p) x y = betterOf J x y := by
  have hm : ∀ {z : Int}, thereOf J z = true → txtOf (moreJ J p) z = txtOf J z := fun h => by unfold moreJ; exact txt_more h
  rw [Bool.eq_iff_iff, better_iff, better_iff]
  unfold AheadP
  simp only [hm hx.1, hm hx.2, hm hy.1, hm hy.2]
set_option maxRecDepth 100000 in
/-- Behind a join the queue stands by the greater table. -/
theorem lz_joined {w w' : World} {S : Nat → Prop} {K T : Nat} {tv : Value} {tb : Option Nat} {J : List Joint} {q : Qm} {p : Int × Int} (h : Lz w S K T tv tb J q) (hj : JoinRet T tv tb (moreJ J p) w w') (hJ : J.length < 1000000) : ∃ tv' tb' S', Lz w' S' K T tv' tb' (moreJ J p) q ∧ Stp S S' w w' := by
  obtain ⟨H, c, m, v, A, hu, hk, a1, a2, a3⟩ := h
  obtain ⟨tv', tb', j1, j2, j3⟩ := hj
  have hap := a1.apart.1
  have hcT : ¬ mineT T tv tb c := fun hm => by
    have hkc := kind_cells a1.env.box
    rcases hm with e | e | e
    · rw [e, kind_cells a1.env.tab.cells] at hkc; revert hkc; decide
    · obtain ⟨cs, hc⟩ := a1.env.tab.row.block c e.symm
      rw [kind_cells hc] at hkc; revert hkc; decide
    · obtain ⟨L, _, hmm⟩ := a1.env.tab.map
      rw [← e] at hmm
      obtain ⟨es, cl, hb, _⟩ := hmm
      rw [hb] at hkc
      cases hkc
  have keep : ∀ k, k < w.heap.size → mineL K H m v k → w'.heap[k]? = w.heap[k]? := fun k hlt hm => j2.block k hlt fun hT => hap k (.inl hT) hm
  have hc0 := (Array.getElem?_eq_some_iff.1 a1.env.box).1
  have hcb : w'.heap[c]? = w.heap[c]? := j2.block c hc0 hcT
  have hthere : ∀ a ∈ A, ∃ x, a = entOf x ∧ thereOf J x.1 = true ∧ thereOf J x.2.1 = true := fun a ha => by
    obtain ⟨x, hx, rfl⟩ := List.mem_map.1 (a1.perm.mem_iff.1 ha)
    obtain ⟨_, b1, b2, _⟩ := a1.sane.ents x hx
    exact ⟨x, rfl, b1, b2⟩
  have hord : HeapFrom (entBetter (moreJ J p)) A 0 := fun i z hi hz hkid hle => by
    have h1 := a1.ord i z hi hz hkid hle
    obtain ⟨x, ex, hx⟩ := hthere A[i] (List.getElem_mem _)
    obtain ⟨y, ey, hy⟩ := hthere A[z] (List.getElem_mem _)
    rw [ex, ey, entBetter_ent] at h1 ⊢
    rw [better_more p hx hy]
    exact h1
  refine ⟨tv', tb', fun k => mineL K H m v k ∨ lzBet T c tv' tb' k, ?_, ?_⟩
  · have hin : LzIn w' K T H c m v A hu hk tv' tb' (moreJ J p) q := by
      refine ⟨(keep K a1.ltK (.inl rfl)).trans a1.box, ⟨j1, hcb.trans a1.env.box, by unfold moreJ; rw [List.length_append, List.length_singleton]; omega⟩, a1.heap.kept fun k h1 h2 => keep k h1 (.inr (.inr h2)), hord, a1.map.kept (keep m a1.map.lt (.inr (.inl rfl))), a1.perm, a1.sane.more p, a1.hu, fun e => ?_⟩
      have hm' : mineT T tv' tb' m := .inr (.inr e.symm)
      exact hap m (.inl (j3 m hm' a1.map.lt)) (.inr (.inl rfl))
    exact ⟨H, c, m, v, A, hu, hk, hin, fun _ h => h, hin.lt⟩
  · refine ⟨(Kept.refl S w).trans j2 fun k _ h => a2 k (.inr (.inl h)), fun k hk1 hlt => ?_⟩
    rcases hk1 with h1 | h1 | h1
    · exact a2 k (.inl h1)
    · exact a2 k (.inr (.inl (j3 k h1 hlt)))
    · exact a2 k (.inr (.inr h1))
set_option maxRecDepth 100000 in
/-- The queue's table. -/
theorem Lz.stab {w : World} {S : Nat → Prop} {K T : Nat} {tv : Value} {tb : Option Nat} {J : List Joint} {q : Qm} (h : Lz w S K T tv tb J q) : Stab w T tv tb J ∧ ∀ k, mineT T tv tb k → S k := by
  obtain ⟨H, c, m, v, A, hu, hk, a1, a2, a3⟩ := h
  exact ⟨a1.env.tab, fun k hk => a2 k (.inr (.inl hk))⟩
set_option maxRecDepth 100000 in
theorem Stp.trans {S1 S2 S3 : Nat → Prop} {w1 w2 w3 : World} (h : Stp S1 S2 w1 w2) (k : Stp S2 S3 w2 w3) : Stp S1 S3 w1 w3 :=
  ⟨h.kept.trans k.kept fun i hi hm => h.out i hm hi, fun i hm hi => h.out i (k.out i hm (Nat.lt_of_lt_of_le hi h.kept.size)) hi⟩
set_option maxRecDepth 100000 in
theorem Stp.of_below {S : Nat → Prop} {w w' : World} (h : Below w.heap.size w w') : Stp S S w w' := ⟨Kept.of_below h (Nat.le_refl _), fun _ h _ => h⟩
/-- The three of them: their blocks are S. -/
def Tr3 (w : World) (S : Nat → Prop) (Kx Kq T N : Nat) (J : List Joint) (M : Mdl) (q : Qm) : Prop :=
  ∃ lab V tv tb Sq, IxM w lab Kx N V M ∧ Lz w Sq Kq T tv tb J q ∧ (∀ k, Sq k → lab k = .no) ∧ (∀ k, lab k ≠ .no ∨ Sq k → S k) ∧ ∀ k, S k → k < w.heap.size
variable {w w' : World} {S : Nat → Prop} {Kx Kq T N : Nat} {J : List Joint} {M : Mdl} {q : Qm}
set_option maxRecDepth 100000 in
theorem Tr3.kept (h : Tr3 w S Kx Kq T N J M q) (hk : ∀ k, k < w.heap.size → S k → w'.heap[k]? = w.heap[k]?) (hs : w.heap.size ≤ w'.heap.size) : Tr3 w' S Kx Kq T N J M q := by
  obtain ⟨lab, V, tv, tb, Sq, h1, h2, h3, h4, h5⟩ := h
  obtain ⟨wv, Kc, mc, b, E, h1⟩ := h1
  exact ⟨lab, V, tv, tb, Sq, ⟨wv, Kc, mc, b, E, h1.turn (fun i hi hm => hk i hi (h4 i (.inl hm))) hs⟩, h2.kept (fun k a b => hk k a (h4 k (.inr b))) hs, h3, h4, fun k a => Nat.lt_of_lt_of_le (h5 k a) hs⟩
set_option maxRecDepth 100000 in
theorem Tr3.below (h : Tr3 w S Kx Kq T N J M q) (hb : Below w.heap.size w w') : Tr3 w' S Kx Kq T N J M q := h.kept (fun k a _ => hb.block k a) hb.size
set_option maxRecDepth 100000 in
theorem Tr3.lt (h : Tr3 w S Kx Kq T N J M q) : ∀ k, S k → k < w.heap.size := by obtain ⟨_, _, _, _, _, _, _, _, _, h5⟩ := h; exact h5
set_option maxRecDepth 100000 in
theorem Tr3.sane (h : Tr3 w S Kx Kq T N J M q) : SaneQ J q := by obtain ⟨_, _, _, _, _, _, h2, _⟩ := h; exact h2.sane
set_option maxRecDepth 100000 in
/-- Count. -/
theorem t3_count (h : Tr3 w S Kx Kq T N J M q) {a b : Int} (hp : FitsPr (a, b)) : Calls Tryz.prog 34 #[.pointer (some ⟨Kx, 0, none⟩), .agg #[.int .i64 a, .int .i64 b]] w fun e w' => e = .returned (.int .i64 (getC M.cnt (a, b))) ∧ Grown w w' := by
  obtain ⟨lab, V, tv, tb, Sq, h1, h2, h3, h4, h5⟩ := h
  exact xcountG_any Kx N lab V M a b w h1 hp
def T3Step (w : World) (S : Nat → Prop) (Kx Kq T N : Nat) (J : List Joint) (M : Mdl) (q : Qm) (w' : World) : Prop := ∃ S', Tr3 w' S' Kx Kq T N J M q ∧ Stp S S' w w'
set_option maxRecDepth 100000 in
/-- The queue is turned. -/
theorem t3_queue {q' : Qm} {lab : Nat → Lab} {V : Int × Int → Value} {Sq : Nat → Prop} (h1 : IxM w lab Kx N V M) (h3 : ∀ k, Sq k → lab k = .no) (h4 : ∀ k, lab k ≠ .no ∨ Sq k → S k) {J' : List Joint} {tv' : Value} {tb' : Option Nat} {Sq' : Nat → Prop} (hz : Lz w' Sq' Kq T tv' tb' J' q') (hst : Stp Sq Sq' w w') : T3Step w S Kx Kq T N J' M q' w' := by
  have h6 : ∀ k, Sq' k → lab k = .no := fun k hk => by
    by_cases e : k < w.heap.size
    · exact h3 k (hst.out k hk e)
    · exact h1.fresh (by omega)
  have hlt : ∀ k, lab k ≠ .no → k < w.heap.size := fun k hk => Classical.byContradiction fun e => hk (h1.fresh (by omega))
  refine ⟨fun k => lab k ≠ .no ∨ Sq' k, ⟨lab, V, tv', tb', Sq', h1.other hst.kept fun i _ hs => h3 i hs, hz, h6, fun _ h => h, fun k hk => ?_⟩, ⟨(Kept.refl S w).trans hst.kept fun k _ h => h4 k (.inr h), fun k hk hl => ?_⟩⟩
  · rcases hk with hk | hk
    · exact Nat.lt_of_lt_of_le (hlt k hk) hst.kept.size
    · exact hz.lt k hk
  · rcases hk with hk | hk
    · exact h4 k (.inl hk)
    · exact h4 k (.inr (hst.out k hk hl))
set_option maxRecDepth 100000 in
/-- Put. -/
theorem t3_put (h : Tr3 w S Kx Kq T N J M q) (p : Int × Int) (n : Int) (hp : FitsPr p) (ht : ThereP J p) (hn : FitsN n) (hpu : q.pu ≤ 80000) :
    Calls Tryz.prog 52 #[.pointer (some ⟨Kq, 0, none⟩), .agg #[.int .i64 p.1, .int .i64 p.2], .int .i64 n] w fun e w' => e = .returned (.tuple #[]) ∧ T3Step w S Kx Kq T N J M (putQ q p n) w' := by
  obtain ⟨lab, V, tv, tb, Sq, h1, h2, h3, h4, h5⟩ := h
  refine (zput_any p n h2 hp ht.1 ht.2 hn hpu).mono ?_
  rintro e w' ⟨rfl, Sq', hz, hst⟩
  exact ⟨rfl, t3_queue h1 h3 h4 hz hst⟩
/-- Pop, asked by Count. -/
def T3PopRet (w : World) (S : Nat → Prop) (Kx Kq T N : Nat) (J : List Joint) (M : Mdl) (q : Qm) (e : Ending) (w' : World) : Prop :=
  ∃ o l n, Pops J (fun p => getC M.cnt p) q.ents o l n ∧ e = .returned (popV o) ∧ T3Step w S Kx Kq T N J M (popQ q o l n) w'
set_option maxRecDepth 100000 in
theorem t3_pop (h : Tr3 w S Kx Kq T N J M q) (hpu : q.pu ≤ 80000) :
    Calls Tryz.prog 33 #[.pointer (some ⟨Kq, 0, none⟩), .func (.func 34) #[.pointer (some ⟨Kx, 0, none⟩)] #[]] w (T3PopRet w S Kx Kq T N J M q) := by
  obtain ⟨lab, V, tv, tb, Sq, h1, h2, h3, h4, h5⟩ := h
  refine (mzpop_any (ix_live Kx N lab V M) h2 h1 (fun k hk hb => hb (h3 k hk)) hpu).mono ?_
  rintro e w' ⟨o, l, n, hp, rfl, Sq', hz, hst⟩
  exact ⟨o, l, n, hp, rfl, t3_queue h1 h3 h4 hz hst⟩
set_option maxRecDepth 100000 in
/-- Join. -/
theorem t3_join (h : Tr3 w S Kx Kq T N J M q) {p : Int × Int} (hp : FitsPr p) (hj : joinOf J p.1 p.2 = ((newS J, 0), moreJ J p)) (hJ : J.length ≤ 900000) :
    Calls Tryz.prog 56 #[.pointer (some ⟨T, 0, none⟩), .int .i64 p.1, .int .i64 p.2] w fun e w' => e = .returned (.tuple #[.int .i64 (newS J), .int .i64 0]) ∧ T3Step w S Kx Kq T N (moreJ J p) M q w' := by
  obtain ⟨lab, V, tv, tb, Sq, h1, h2, h3, h4, h5⟩ := h
  have cJ := sjoin_any T tv tb J p.1 p.2 w h2.stab.1 hJ hp.1.1 hp.1.2 hp.2.1 hp.2.2
  rw [hj] at cJ
  refine cJ.mono ?_
  rintro e w' ⟨rfl, hr⟩
  obtain ⟨tv', tb', Sq', hz, hst⟩ := lz_joined h2 hr (by omega)
  exact ⟨rfl, t3_queue h1 h3 h4 hz hst⟩
/-- Merge. -/
def T3MrgRet (w : World) (S : Nat → Prop) (Kx Kq T N : Nat) (J : List Joint) (M : Mdl) (q : Qm) (p : Int × Int) (s : Int) (e : Ending) (w' : World) : Prop :=
  ∃ (z : Int) (r : Value) (Y : List (Int × Int)) (M' : Mdl) (had : Int × Int → Int → Prop), e = .returned (.tuple #[.int .i64 z, r]) ∧ ownE pairE w' w.heap.size r Y ∧ Y.Pairwise pb ∧ (∀ q, q ∈ Y ↔ getC M'.cnt q ≠ getC M.cnt q) ∧
    (∃ S', Tr3 w' S' Kx Kq T (N + 3000 * 100) J M' q ∧ Stp S S' w w' ∧ ∀ g, r.ownBlock = some g → ¬ S' g) ∧ M'.ws = mergeWs p s M.ws ∧ GoodM M' (s + 1) had ∧ M'.pos = M.pos - z ∧ z + lenW M'.ws = lenW M.ws ∧ M.tou ≤ M'.tou ∧ M'.tou ≤ M.tou + 100
set_option maxRecDepth 100000 in
theorem t3_merge (h : Tr3 w S Kx Kq T N J M q) {p : Int × Int} {s : Int} {had : Int × Int → Int → Prop} (hg : GoodM M s had) (hp : FitsPr p) (hs : s < 1000000) (hlen : lenW M.ws ≤ 1000000) (hws : M.ws.length ≤ 100) (hpos : 0 ≤ M.pos ∧ M.pos ≤ 1000000000000) (htou : 0 ≤ M.tou ∧ M.tou ≤ 1000000000000) (hN : N ≤ 800000000000) (hcl : M.cnt.length ≤ 400000) :
    Calls Tryz.prog 57 #[.pointer (some ⟨Kx, 0, none⟩), .agg #[.int .i64 p.1, .int .i64 p.2], .int .i64 s] w (T3MrgRet w S Kx Kq T N J M q p s) := by
  obtain ⟨lab, V, tv, tb, Sq, h1, h2, h3, h4, h5⟩ := h
  refine (xmerge_any Kx N lab V M p.1 p.2 s had w h1 hg hp hs hlen hws hpos htou hN hcl).mono ?_
  rintro e w' ⟨z, r, Y, lab', V', M', rfl, ho, hY, hYi, hrn, hix, hx, hw, hgm, hps, hzl, hto⟩
  have hpl : (M.pl p).length ≤ 100 := Nat.le_trans (hg.plen p) hws
  have hsq : ∀ k, Sq k → k < w.heap.size := h2.lt
  have hno : ∀ k, Sq k → lab' k = .no := fun k hk => (hx.out (hsq k hk) (h3 k hk)).1
  have hlt : ∀ k, lab' k ≠ .no → k < w'.heap.size := fun k hk => Classical.byContradiction fun e => hk (hix.fresh (by omega))
  refine ⟨z, r, Y, M', _, rfl, ho, hY, hYi, ⟨fun k => lab' k ≠ .no ∨ Sq k, ⟨lab', V', tv, tb, Sq, hix.mono (by show N + 3000 * (M.pl p).length ≤ _; omega), h2.kept (fun k a b => (hx.out a (h3 k b)).2) hx.size, hno, fun _ h => h, fun k hk => ?_⟩, ⟨(Kept.refl S w).trans hx.kept fun k _ h => h4 k (.inl h), fun k hk hl => ?_⟩, fun g hg hS => ?_⟩, hw, hgm, hps, hzl, by rw [hto]; omega, by rw [hto]; show M.tou + ((M.pl p).length : Int) ≤ _; omega⟩
  · rcases hk with hk | hk
    · exact hlt k hk
    · exact Nat.lt_of_lt_of_le (hsq k hk) hx.size
  · rcases hk with hk | hk
    · exact h4 k (.inl (hx.sub k hl hk))
    · exact h4 k (.inr hk)
  · rcases hS with hS | hS
    · exact hS (hrn g hg)
    · have := hsq g hS
      have := (ho.lt g hg).1
      omega
end Go.Proofs.YtnmacalbbmeedaaGreat
