/- What a map of pairs tells, rising. -/
import Derived.Test.YtejcemmhhpbchaaGreatSortD
namespace Go.Proofs.YtejcemmhhpbchaaGreat
open Go.RowKit Go.Maps

set_option maxRecDepth 100000 in
theorem map_size {w : World} {b n : Nat} {D : DataW Unit} (h : w.ownsMap Tryz.prog 37 (plainElem Tryz.prog 3) b n D) : Maps.size D ≤ n := by
  obtain ⟨es, clock, hb, F, hs, rfl⟩ := h
  have : Maps.size (DataW.map ((es.toList.map (WideElems.rg Tryz.prog 37 (plainElem (H := Unit) Tryz.prog 3))).foldr DataW.insert [])) = es.size := by simp [Maps.size, length_sorted]
  omega
set_option maxRecDepth 100000 in
/-- A range's step over a map of pairs. -/
theorem wpList_next_pairs (w : World) {ops : Array Oper} {rest : List Oper} {o : Oper} {a : Act} {Q : Exit → Act → World → Prop} (hg : o.guard = none) (it : Operand) (hop : o.op = Op.next it false) (D : DataW Unit) (b r n : Nat) (left : Lit → Bool) (cntP : Nat)
    (hit : a.eval it = .pointer (some ⟨r, 0, none⟩)) (h : w.ranges Tryz.prog 37 (plainElem Tryz.prog 3) b r n D left cntP)
    (hDone : cntP = 0 → (∀ kl, left kl = false) → wpList Tryz.prog ops Q rest (a.put o.dst (.tuple #[.bool false])) w)
    (hMore : ∀ (p : Int × Int) (c : Int) (w' : World) (cnt' : Nat), FitsPr p → left (pk p) = true → (∀ zd, D.atKey (pk p) zd = .lit (.int .i64 c)) → w'.ranges Tryz.prog 37 (plainElem Tryz.prog 3) b r n D (fun z => left z && !z.sameKey (pk p)) cnt' → cnt' < cntP →
      w.grownBy w' (some r) → (Instr.entry (.pointer (some ⟨r, 0, none⟩))).run Tryz.prog w' = .ok (.tuple #[.agg #[.int .i64 p.1, .int .i64 p.2], .int .i64 c]) w' → wpList Tryz.prog ops Q rest (a.put o.dst (.tuple #[.bool true, .agg #[.int .i64 p.1, .int .i64 p.2], .int .i64 c])) w') :
    wpList Tryz.prog ops Q (o :: rest) a w :=
  wpList_next_ranges w hg it hop 37 lawP (plainElem Tryz.prog 3) pv (Value.int .i64) (fun key kl hkey => by obtain ⟨p, rfl, _⟩ := key_pair_inv hkey; exact ⟨p, rfl⟩) (fun v y hv => by obtain ⟨c, rfl, _⟩ := plainElem_int_inv Tryz.underlying3 hv; exact ⟨c, rfl⟩)
    b r n D left cntP hit h hDone (fun x c kl y w' cnt' hkey hlk hv hat hrg hlt hgr hsz hen => by
      obtain ⟨p, ex, rfl, hp⟩ := key_pair_inv hkey
      obtain ⟨c', ec, rfl, hwc⟩ := plainElem_int_inv Tryz.underlying3 hv
      cases ec
      have e : x = p := by
        unfold pv at ex
        simp only [Value.agg.injEq, Array.mk.injEq, List.cons.injEq, Value.int.injEq, true_and, and_true] at ex
        exact Prod.ext ex.1 ex.2
      subst e
      exact hMore x c w' cnt' hp hlk hat hrg hlt hgr hen)
def RisRel (w : World) (b r N : Nat) (D : DataW Unit) (f : Int × Int → Int) (v : Value) (wr : World) : Prop :=
  ∃ (left : Lit → Bool) (cntP : Nat) (M : List Chg), wr.ranges Tryz.prog 37 (plainElem Tryz.prog 3) b r N D left cntP ∧ ownE chgE wr w.heap.size v M ∧ (∀ p c, (p, c) ∈ M ↔ FitsPr p ∧ f p = c ∧ c ≠ 0 ∧ left (pk p) = false) ∧
    (M.Pairwise fun x y => x.1 ≠ y.1) ∧ M.length + cntP ≤ N ∧ Below w.heap.size w wr
set_option maxRecDepth 100000 in
theorem ownE.ne_pmap {w : World} {b m : Nat} {v : Value} {M : List Chg} {n : Nat} {D : DataW Unit} (h : ownE chgE w b v M) (hm : w.ownsMap Tryz.prog 37 (plainElem (H := Unit) Tryz.prog 3) m n D) : some m ≠ v.ownBlock := by
  intro e
  obtain ⟨cs, hc⟩ := h.block m e.symm
  obtain ⟨es, clock, hb, _⟩ := hm
  rw [hc] at hb; cases hb
set_option maxRecDepth 100000 in
theorem ris_mem {M : List Chg} {D : DataW Unit} {f : Int × Int → Int} {left : Lit → Bool} {p : Int × Int} {c : Int} (hM : ∀ p c, (p, c) ∈ M ↔ FitsPr p ∧ f p = c ∧ c ≠ 0 ∧ left (pk p) = false) (hp : FitsPr p) (hl : left (pk p) = true)
    (hD : ∀ p, FitsPr p → D.atKey (pk p) (.lit (.int .i64 0)) = .lit (.int .i64 (f p)) ∧ Maps.has D (pk p) = decide (f p ≠ 0)) (hat : ∀ zd, D.atKey (pk p) zd = .lit (.int .i64 c)) :
    (∀ q d, (q, d) ∈ M ++ [(p, c)] ↔ FitsPr q ∧ f q = d ∧ d ≠ 0 ∧ (left (pk q) && !(pk q).sameKey (pk p)) = false) ∧ (M.Pairwise (fun x y => x.1 ≠ y.1) → (M ++ [(p, c)]).Pairwise fun x y => x.1 ≠ y.1) := by
  obtain ⟨h1, h2⟩ := hD p hp
  rw [hat] at h1
  have hc : f p = c := by cases h1; rfl
  have hne : f p ≠ 0 := by
    rw [has_true_of_atKey hat] at h2
    exact of_decide_eq_true h2.symm
  constructor
  · intro q d
    rw [List.mem_append, List.mem_singleton, hM]
    constructor
    · rintro (⟨a1, a2, a3, a4⟩ | e)
      · exact ⟨a1, a2, a3, by rw [a4]; rfl⟩
      · cases e
        exact ⟨hp, hc, hc ▸ hne, by rw [WideAt.sameKey_self (pk_key p)]; simp⟩
    · rintro ⟨a1, a2, a3, a4⟩
      by_cases e : q = p
      · subst e
        exact .inr (by rw [← a2, hc])
      · refine .inl ⟨a1, a2, a3, ?_⟩
        rw [sameKey_ne fun k => e (pk_inj a1 hp k)] at a4
        simpa using a4
  · intro hn
    refine List.pairwise_append.2 ⟨hn, List.pairwise_singleton _ _, fun x hx y hy => ?_⟩
    rw [List.mem_singleton] at hy
    subst hy
    intro e
    have := ((hM x.1 x.2).1 hx).2.2.2
    rw [e, hl] at this
    cases this
set_option maxRecDepth 100000 in
theorem ris_step {w wr w1 w2 : World} {b r cntP cnt' N : Nat} {D : DataW Unit} {f : Int × Int → Int} {M : List Chg} {v v' : Value} {left : Lit → Bool} {p : Int × Int} {c : Int} (o : Obj) (hb : Below w.heap.size w wr) (hM : ∀ p c, (p, c) ∈ M ↔ FitsPr p ∧ f p = c ∧ c ≠ 0 ∧ left (pk p) = false) (hn : M.Pairwise fun x y => x.1 ≠ y.1) (hp : FitsPr p) (hl : left (pk p) = true)
    (hD : ∀ p, FitsPr p → D.atKey (pk p) (.lit (.int .i64 0)) = .lit (.int .i64 (f p)) ∧ Maps.has D (pk p) = decide (f p ≠ 0)) (hat : ∀ zd, D.atKey (pk p) zd = .lit (.int .i64 c))
    (hrr : w.heap.size ≤ r) (hg : wr.grownBy w1 (some r)) (h1 : w1.ranges Tryz.prog 37 (plainElem (H := Unit) Tryz.prog 3) b r N D (fun z => left z && !z.sameKey (pk p)) cnt') (hv : ownE chgE w1 w.heap.size v M) (hcnt : M.length + cntP ≤ N) (hlt : cnt' < cntP)
    (h2 : ownE chgE w2 w.heap.size v' (M ++ [(p, c)])) (hg2 : ((w1.alloc o).alloc (.cells #[.int .i64 p.1, .int .i64 p.2, .int .i64 c] 101)).grownBy w2 v.ownBlock) :
    RisRel w b r N D f v' w2 ∧ w2.ranges Tryz.prog 37 (plainElem (H := Unit) Tryz.prog 3) b r N D (fun z => left z && !z.sameKey (pk p)) cnt' := by
  have hv' := (hv.alloc o).alloc (.cells #[.int .i64 p.1, .int .i64 p.2, .int .i64 c] 101)
  have h0 := (h1.alloc o).alloc (.cells #[.int .i64 p.1, .int .i64 p.2, .int .i64 c] 101)
  have h3 := h0.kept hg2 (hv'.ne_pmap h0.owns) (row_ne_iter hv' h0)
  have hs := hb.size
  have hs1 := hg.size
  have hb1 : Below w.heap.size w w1 := hb.grown hg hs fun g e => by cases e; exact hrr
  obtain ⟨m1, m2⟩ := ris_mem hM hp hl hD hat
  exact ⟨⟨_, cnt', M ++ [(p, c)], h3, h2, m1, m2 hn, by simp; omega, ((hb1.alloc (by omega) o).alloc (by rw [World.size_alloc]; omega) _).grown hg2 (by rw [World.size_alloc, World.size_alloc]; omega) fun g e => (hv.lt g e).1⟩, h3⟩
set_option maxRecDepth 100000 in
set_option maxHeartbeats 2000000 in
theorem rising_any (b N : Nat) (f : Int × Int → Int) (w : World) (h : PMap w b N f) (hN : N ≤ 100000) :
    Calls Tryz.prog 51 #[.map (some b)] w fun e w' => ∃ v L, e = .returned v ∧ ownE chgE w' w.heap.size v L ∧ ChangesOf f L ∧ L.length ≤ N ∧ Below w.heap.size w w' := by
  obtain ⟨D, hown, hD, _⟩ := h
  have HD := Lib.hid hD
  have hlen := World.ownsMap.len hown Tryz.underlying95 3
  have hsz := map_size hown
  obtain ⟨n, hn⟩ : ∃ n, Maps.size D = n := ⟨_, rfl⟩
  have HN := Lib.hid hn
  rw [hn] at hlen hsz
  have hlt := World.ownsMap.lt hown
  obtain ⟨i0, hi, hz0, hz1, hz2⟩ := info_parts chgE.info
  obtain ⟨w1, hmk, hown1, hg1⟩ := run_make_own (P := Tryz.prog) w w.heap.size 74 101 i0 _ 3 Tryz.underlying74 hi hz0 hz1 .i64 .i64 n (by rw [hz2]; show 24 * n ≤ _; omega) (by unfold maxLen; omega) (Nat.le_refl _)
  have hb1 : Below w.heap.size w w1 := (Below.refl _ w).grown hg1 (Nat.le_refl _) (by simp)
  have HB1 := Lib.hid hb1
  have HO1 : Hid (ownE chgE w1 w.heap.size (.slice (some ⟨w.heap.size, 0, none⟩) 0 n) []) := Lib.hid hown1
  have hmap1 : w1.ownsMap Tryz.prog 37 (plainElem Tryz.prog 3) b N D := by
    obtain ⟨es, clock, hb, rest⟩ := hown
    exact ⟨es, clock, (hb1.block b hlt).trans hb, rest⟩
  obtain ⟨w2, hrng, hrg2, hg2, hs2⟩ := World.ownsMap.range (w := w1) hmap1 lawP Tryz.underlying95
  have HR2 := Lib.hid hrg2; have HG2 := Lib.hid hg2
  have HS1 : Hid (w.heap.size ≤ w1.heap.size) := Lib.hid HB1.out.size
  obtain ⟨r, hr⟩ : ∃ r, w1.heap.size = r := ⟨_, rfl⟩
  rw [hr] at hrng HR2 HS1
  clear hr hrg2 hg2 hs2 hmap1 hb1 hown1 hg1 hi hz0 hz1 hz2 hn hD hown hlt
  go_enter Tryz.func51, Tryz.ntmps51
  go_wp2
  go_loopw [3] (fun v wr => RisRel w b r N D f v wr) (fun _ wr => wr.rangeLeft b r)
  case atStart =>
    refine ⟨_, _, [], HR2.out, HO1.out.kept fun g hg => HG2.out.block g (HO1.out.lt g hg).2 (by simp), fun p c => ⟨fun h => by simp at h, ?_⟩, List.Pairwise.nil, by rw [HN.out]; simp; omega, HB1.out.grown HG2.out HB1.out.size (by simp)⟩
    rintro ⟨h1, h2, h3, h4⟩
    rw [(HD.out p h1).2, h2] at h4
    exact absurd h3 (of_decide_eq_false h4)
  case round =>
    obtain ⟨left, cntP, M, hrg, hown, hM, hnd, hcn, hbel⟩ := hrel
    have HM := Lib.hid hM; have HO := Lib.hid hown; have HB := Lib.hid hbel; have HR := Lib.hid hrg; have HND := Lib.hid hnd; have HCN := Lib.hid hcn
    clear hM hown hbel hrg hnd hcn
    go_wp2_with (at_next; refine wpList_next_pairs _ rfl _ rfl D b r N left cntP rfl HR.out ?_ ?_)
    · intro _ hl0
      have HP : Hid (∀ p c, (p, c) ∈ M ↔ FitsPr p ∧ f p = c ∧ c ≠ 0) := Lib.hid (fun p c => by rw [HM.out]; simp [hl0])
      clear hl0
      go_wp2_with fail
      refine (csort_any u3 M _ w.heap.size HO.out HND.out (by have := HCN.out; omega)).mono ?_
      rintro e w5 ⟨rfl, L, hown5, hp5, hr5, hg5⟩
      have HO5 := Lib.hid hown5; have HG5 := Lib.hid hg5; have HP5 := Lib.hid hp5; have HR5 := Lib.hid hr5
      clear hown5 hg5 hp5 hr5
      go_wp2
      go_ret
      exact ⟨_, L, rfl, HO5.out, ⟨HR5.out, fun p c => by rw [HP5.out.mem_iff, HP.out]⟩, by rw [HP5.out.length_eq]; have := HCN.out; omega, HB.out.grown HG5.out HB.out.size fun g e => (HO.out.lt g e).1⟩
    · intro p q c w3 cnt3 hfp hlx hat hrg3 hlt hg3 hen
      have HF := Lib.hid hfp; have HL := Lib.hid hlx; have HX := Lib.hid hat; have HR3 := Lib.hid hrg3; have HT := Lib.hid hlt; have HG3 := Lib.hid hg3
      have HO3 : Hid (ownE chgE w3 w.heap.size u3 M) := Lib.hid (HO.out.kept fun g hg => HG3.out.block g (HO.out.lt g hg).2 (fun e => by
        have := row_ne_iter HO.out HR.out
        rw [hg] at this; exact this e.symm))
      have HO4 : Hid (ownE chgE ((w3.alloc (.cells #[.int .i64 p, .int .i64 q] 37)).alloc (.cells #[.int .i64 p, .int .i64 q, .int .i64 c] 101)) w.heap.size u3 M) := Lib.hid ((HO3.out.alloc _).alloc _)
      have HE4 : Hid (eltsAt chgE ((w3.alloc (.cells #[.int .i64 p, .int .i64 q] 37)).alloc (.cells #[.int .i64 p, .int .i64 q, .int .i64 c] 101)) (.slice (some ⟨w3.heap.size + 1, 0, none⟩) 1 1) [((p, q), c)]) := Lib.hid (by
        have := one_elt chgE (w3.alloc (.cells #[.int .i64 p, .int .i64 q] 37)) ((p, q), c)
        rwa [World.size_alloc] at this)
      have HZ : Hid (w.heap.size ≤ ((w3.alloc (.cells #[.int .i64 p, .int .i64 q] 37)).alloc (.cells #[.int .i64 p, .int .i64 q, .int .i64 c] 101)).heap.size) := Lib.hid (by rw [World.size_alloc, World.size_alloc]; have := HB.out.size; have := HG3.out.size; omega)
      clear hfp hlx hat hrg3 hlt hg3
      go_wp2_with (at_builtin; refine wpList_append_elts chgE rfl (.tmp 16) (.tmp 20) rfl w.heap.size u3 _ M [((p, q), c)] rfl rfl HO4.out HE4.out (fun n c e => by cases e) (by have := HCN.out; simp; omega) HZ.out ?_; intro r5 w5 hown5 hg5 _; have HO5 := Lib.hid hown5; have HG5 := Lib.hid hg5; clear hown5 hg5)
      have HS := Lib.hid (ris_step (.cells #[.int .i64 p, .int .i64 q] 37) HB.out HM.out HND.out HF.out HL.out HD.out HX.out HS1.out HG3.out HR3.out HO3.out HCN.out HT.out HO5.out HG5.out)
      go_roundw
      case rel => exact HS.out.1
      case measure => rw [HS.out.2.left_eq, HR.out.left_eq]; exact HT.out
end Go.Proofs.YtejcemmhhpbchaaGreat
