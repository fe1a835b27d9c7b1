/- Texts in one: LzRe. -/
import Derived.Test.YtnmacalbbmeedaaGreatQ30
import Derived.Laws.IdiomRangeMap
import Derived.Sort.OwnSorted
/- A queue is built anew. -/
namespace Go.Proofs.YtnmacalbbmeedaaGreat
open Go.RowKit Go.Maps Go.Shelf
open Go.Sort (grow grow_empty grow_grow alloc_eq_grow heap_grow_old)
variable {w w' : World} {K T H c m : Nat} {v : Value} {A : List Ent} {hu hk : Int} {tv : Value} {tb : Option Nat} {J : List Joint} {q q' : Qm}

set_option maxRecDepth 100000 in
theorem Hp.inB {B : Nat} {fv : Value} {pu pk : Int} (h : Hp w B K fv v A pu pk) : ∀ k, mine K v k → B ≤ k ∧ k < w.heap.size := by
  rintro k (rfl | e)
  · exact ⟨h.base, h.ltK⟩
  · exact h.row.lt k e.symm
set_option maxRecDepth 100000 in
/-- A range's step over a map of pairs. -/
theorem lzList_next_pairs (w : World) {ops : Array Oper} {rest : List Oper} {o : Oper} {a : Act} {Q : Exit → Act → World → Prop} (hg : o.guard = none) (it : Operand) (hop : o.op = Op.next it false) (D : DataW Unit) (b r n : Nat) (left : Lit → Bool) (cnt : Nat)
    (hit : a.eval it = .pointer (some ⟨r, 0, none⟩)) (h : w.ranges Tryz.prog 77 (plainElem Tryz.prog 3) b r n D left cnt)
    (hDone : cnt = 0 → (∀ kl, left kl = false) → wpList Tryz.prog ops Q rest (a.put o.dst (.tuple #[.bool false])) w)
    (hMore : ∀ (p : Int × Int) (c : Int) (w' : World) (cnt' : Nat), FitsPr p → left (pk p) = true → (∀ zd, D.atKey (pk p) zd = .lit (.int .i64 c)) → w'.ranges Tryz.prog 77 (plainElem Tryz.prog 3) b r n D (fun z => left z && !z.sameKey (pk p)) cnt' → cnt' < cnt →
      w.grownBy w' (some r) → (Instr.entry (.pointer (some ⟨r, 0, none⟩))).run Tryz.prog w' = .ok (.tuple #[.agg #[.int .i64 p.1, .int .i64 p.2], .int .i64 c]) w' → wpList Tryz.prog ops Q rest (a.put o.dst (.tuple #[.bool true, .agg #[.int .i64 p.1, .int .i64 p.2], .int .i64 c])) w') :
    wpList Tryz.prog ops Q (o :: rest) a w :=
  wpList_next_ranges w hg it hop 77 lawP (plainElem Tryz.prog 3) pv (Value.int .i64) (fun key kl hkey => by obtain ⟨p, rfl, _⟩ := key_pair_inv hkey; exact ⟨p, rfl⟩) (fun v y hv => by obtain ⟨c, rfl, _⟩ := plainElem_int_inv Tryz.underlying3 hv; exact ⟨c, rfl⟩)
    b r n D left cnt hit h hDone (fun x c kl y w' cnt' hkey hlk hv hat hrg hlt hgr hsz hen => by
      obtain ⟨p, ex, rfl, hp⟩ := key_pair_inv hkey
      obtain ⟨c', ec, rfl, hwc⟩ := plainElem_int_inv Tryz.underlying3 hv
      cases ec
      have e : x = p := by
        unfold pv at ex
        simp only [Value.agg.injEq, Array.mk.injEq, List.cons.injEq, Value.int.injEq, true_and, and_true] at ex
        exact Prod.ext ex.1 ex.2
      subst e
      exact hMore x c w' cnt' hp hlk hat hrg hlt hgr hen)
/-- What a range has told so far. -/
def toldC (L : Cn) (left : Lit → Bool) : Cn := L.filter fun p => !left (pk p.1)
set_option maxRecDepth 100000 in
theorem toldC_start {L : Cn} {D : DataW Unit} (hD : ReadsC D L) : toldC L (Maps.has D) = [] := by
  refine List.filter_eq_nil_iff.2 fun p hp => ?_
  rw [hD.has p.1 (hD.fits p hp).1, inC_iff.2 ⟨p.2, hp⟩]
  simp
set_option maxRecDepth 100000 in
theorem toldC_end {L : Cn} {left : Lit → Bool} (h : ∀ k, left k = false) : toldC L left = L := by
  refine List.filter_eq_self.2 fun p _ => ?_
  rw [h]; rfl
set_option maxRecDepth 100000 in
theorem toldC_len (L : Cn) (left : Lit → Bool) : (toldC L left).length ≤ L.length := List.length_filter_le _ _
set_option maxRecDepth 100000 in
theorem toldC_step {left : Lit → Bool} {s : Int × Int} {c : Int} (hs : FitsPr s) (hl : left (pk s) = true) : ∀ {L : Cn}, (∀ x ∈ L, FitsPr x.1) → RisC L → (s, c) ∈ L →
    (toldC L fun z => left z && !z.sameKey (pk s)).Perm ((s, c) :: toldC L left)
  | q :: r, hf, h, hm => by
    obtain ⟨h1, h2⟩ := List.pairwise_cons.1 h
    unfold toldC
    rw [List.filter_cons, List.filter_cons]
    rcases List.mem_cons.1 hm with rfl | k
    · have e1 : (!(left (pk s) && !(pk s).sameKey (pk s))) = true := by rw [WideAt.sameKey_self (pk_key _)]; simp
      have e2 : (!left (pk s)) = false := by rw [hl]; rfl
      rw [if_pos e1, e2, if_neg (by simp)]
      refine List.Perm.cons _ (List.Perm.of_eq (List.filter_congr fun x hx => ?_))
      have hne : x.1 ≠ s := fun e => by
        have := h1 x hx
        rw [e] at this
        exact pb_irrefl s this
      show (!(left (pk x.1) && !(pk x.1).sameKey (pk s))) = !left (pk x.1)
      rw [sameKey_ne fun e => hne (pk_inj (hf x (List.mem_cons_of_mem _ hx)) hs e)]
      simp
    · have hne : q.1 ≠ s := fun e => by
        have := h1 _ k
        rw [e] at this
        exact pb_irrefl s this
      have ih := toldC_step hs hl (fun x hx => hf x (List.mem_cons_of_mem _ hx)) h2 k
      unfold toldC at ih
      have e4 : (!(left (pk q.1) && !(pk q.1).sameKey (pk s))) = !left (pk q.1) := by
        rw [sameKey_ne fun e => hne (pk_inj (hf q List.mem_cons_self) hs e)]
        simp
      simp only [e4]
      split
      · exact (List.Perm.cons _ ih).trans (List.Perm.swap ..)
      · exact ih
/-- Behind a call that turns a queue. -/
def LRet (w : World) (K T H c m : Nat) (v : Value) (tv : Value) (tb : Option Nat) (J : List Joint) (q' : Qm) (w' : World) : Prop :=
  ∃ H' c' v' A' hu' hk', LzIn w' K T H' c' m v' A' hu' hk' tv tb J q' ∧ Kept (mineL K H m v) w w' ∧ ∀ k, (mineL K H' m v' k ∨ k = c') → k < w.heap.size → mineL K H m v k ∨ k = c
def ReRel (w : World) (m r : Nat) (D : DataW Unit) (L : Cn) (x : Value) (wr : World) : Prop :=
  ∃ (left : Lit → Bool) (cnt : Nat) (M : List Item), wr.ranges Tryz.prog 77 (plainElem Tryz.prog 3) m r L.length D left cnt ∧ ownE entE wr w.heap.size x (M.map entOf) ∧ M.Perm (itemsOf (toldC L left)) ∧ Below w.heap.size w wr
set_option maxRecDepth 100000 in
theorem own_ne_map {α : Type} {R : Elt α} {w : World} {b m : Nat} {v : Value} {M : List α} {n : Nat} {D : DataW Unit} (h : ownE R w b v M) (hm : w.ownsMap Tryz.prog 77 (plainElem (H := Unit) Tryz.prog 3) m n D) : some m ≠ v.ownBlock := by
  intro e
  obtain ⟨cs, hc⟩ := h.block m e.symm
  obtain ⟨es, clock, hb, _⟩ := hm
  rw [hc] at hb; cases hb
set_option maxRecDepth 100000 in
theorem re_step {w wr w1 w3 w2 : World} {m r cnt' : Nat} {D : DataW Unit} {L : Cn} {M : List Item} {x x' : Value} {left : Lit → Bool} {p : Int × Int} {n : Int} (hb : Below w.heap.size w wr) (hM : M.Perm (itemsOf (toldC L left))) (hp : FitsPr p) (hl : left (pk p) = true)
    (hD : ReadsC D L) (hat : ∀ zd, D.atKey (pk p) zd = .lit (.int .i64 n))
    (hrr : w.heap.size ≤ r) (hg : wr.grownBy w1 (some r)) (h1 : w1.ranges Tryz.prog 77 (plainElem (H := Unit) Tryz.prog 3) m r L.length D (fun z => left z && !z.sameKey (pk p)) cnt') (hv : ownE entE w1 w.heap.size x (M.map entOf))
    (hg3 : Below w1.heap.size w1 w3) (h2 : ownE entE w2 w.heap.size x' (M.map entOf ++ [entOf (p.1, p.2, n)])) (hg2 : w3.grownBy w2 x.ownBlock) :
    ReRel w m r D L x' w2 ∧ w2.ranges Tryz.prog 77 (plainElem (H := Unit) Tryz.prog 3) m r L.length D (fun z => left z && !z.sameKey (pk p)) cnt' := by
  have hv3 : ownE entE w3 w.heap.size x (M.map entOf) := hv.below hg3
  have h3 : w3.ranges Tryz.prog 77 (plainElem (H := Unit) Tryz.prog 3) m r L.length D (fun z => left z && !z.sameKey (pk p)) cnt' := h1.kept (row := none) ⟨hg3.os, hg3.tape, hg3.output, hg3.size, fun k hk _ => hg3.block k hk⟩ (by simp) (by simp)
  have h4 := h3.kept hg2 (own_ne_map hv3 h3.owns) (row_ne_iter hv3 h3)
  have hs := hb.size
  have hs1 := hg.size
  have hb1 : Below w.heap.size w w1 := hb.grown hg hs fun g e => by cases e; exact hrr
  have hmem : (p, n) ∈ L := by
    have h5 := hD.has p hp
    rw [has_true_of_atKey hat] at h5
    have h6 := get_in h5.symm
    have h7 := hD.tell p hp
    rw [hat] at h7
    have e : n = getC L p := by simpa using h7
    rw [e]; exact h6
  refine ⟨⟨_, cnt', M ++ [(p.1, p.2, n)], h4, by rw [List.map_append]; exact h2, ?_, (hb1.trans (hg3.mono (by omega))).grown hg2 (by have := hg3.size; omega) fun g e => (hv.lt g e).1⟩, h4⟩
  refine (List.perm_append_comm).trans ?_
  have h8 := (toldC_step hp hl (fun x hx => (hD.fits x hx).1) hD.ris hmem).map itemC
  exact (List.Perm.cons _ hM).trans h8.symm
set_option maxRecDepth 100000 in
set_option maxHeartbeats 4000000 in
theorem rebuild_any (h : LzIn w K T H c m v A hu hk tv tb J q) (hl : q.known.length ≤ 90000) (hre : q.re ≤ 1000000) (hsane : SaneQ J { q with ents := itemsOf q.known, re := q.re + 1 }) :
    Calls Tryz.prog 77 #[.pointer (some ⟨K, 0, none⟩)] w fun e w' => e = .returned (.tuple #[]) ∧ LRet w K T H c m v tv tb J { q with ents := itemsOf q.known, re := q.re + 1 } w' := by
  have HH := Lib.hid h
  have HSN := Lib.hid hsane
  obtain ⟨c0, c1, c2, c3, c4, c5, c6⟩ := h.cells
  have hlen := len_c (m := some m) (w := w) (L := q.known) h.map 3
  obtain ⟨i0, hi, hz0, hz1, hz2⟩ := info_parts entE.info
  obtain ⟨n, hn⟩ : ∃ n, q.known.length = n := ⟨_, rfl⟩
  have HN := Lib.hid hn
  rw [hn] at hlen hl
  obtain ⟨w1, hmk, hown1, hg1⟩ := run_make_own (P := Tryz.prog) w w.heap.size 140 111 i0 _ 6 Tryz.underlying140 hi hz0 hz1 .i64 .i64 n (by rw [hz2]; show 48 * n ≤ _; omega) (by unfold maxLen; omega) (Nat.le_refl _)
  have hb1 : Below w.heap.size w w1 := (Below.refl _ w).grown hg1 (Nat.le_refl _) (by simp)
  have HB1 := Lib.hid hb1
  have HO1 : Hid (ownE entE w1 w.heap.size (.slice (some ⟨w.heap.size, 0, none⟩) 0 n) []) := Lib.hid hown1
  obtain ⟨d0, _, d2, _⟩ := (h.below hb1).cells
  obtain ⟨D, hmap1, hrd⟩ := (h.below hb1).map
  have HD := Lib.hid hrd
  obtain ⟨w2, hrng, hrg2, hg2, hs2⟩ := World.ownsMap.range (w := w1) hmap1 lawP Tryz.underlying114
  have HR2 := Lib.hid hrg2; have HG2 := Lib.hid hg2
  have HS1 : Hid (w.heap.size ≤ w1.heap.size) := Lib.hid HB1.out.size
  obtain ⟨r, hr⟩ : ∃ r, w1.heap.size = r := ⟨_, rfl⟩
  rw [hr] at hrng HR2 HS1
  clear hr hrg2 hg2 hs2 hmap1 hb1 hn hrd hown1 hg1 hi hz0 hz1 hz2 h hsane
  go_enter Tryz.func77, Tryz.ntmps77
  go_wp2
  clear c0 c1 c2 c3 c4 c5 c6 d0 d2
  go_loopw [2] (fun x wr => ReRel w m r D q.known x wr) (fun _ wr => wr.rangeLeft m r)
  case atStart =>
    refine ⟨_, _, [], HR2.out, HO1.out.kept fun g hg => HG2.out.block g (HO1.out.lt g hg).2 (by simp), ?_, HB1.out.grown HG2.out HB1.out.size (by simp)⟩
    rw [toldC_start HD.out]
    exact List.Perm.refl _
  case round =>
    obtain ⟨left, cnt, M, hrg, hown, hM, hbel⟩ := hrel
    have HM := Lib.hid hM; have HO := Lib.hid hown; have HB := Lib.hid hbel; have HR := Lib.hid hrg
    have hMl : M.length ≤ n := by
      rw [hM.length_eq, itemsOf_len, ← HN.out]; exact toldC_len _ _
    clear hM hown hbel hrg
    go_wp2_with (at_next; refine lzList_next_pairs _ rfl _ rfl D m r q.known.length left cnt rfl HR.out ?_ ?_)
    · intro _ hl0
      have HP : Hid (M.Perm (itemsOf q.known)) := Lib.hid (by have := HM.out; rwa [toldC_end hl0] at this)
      clear hl0
      have hLR := HH.out.below HB.out
      have HLR := Lib.hid hLR
      obtain ⟨e0, e1, e2, e3, e4, e5, e6⟩ := hLR.cells
      have cO := order_any T wr
      obtain ⟨cN, hcN⟩ : ∃ cN, wr.heap.size = cN := ⟨_, rfl⟩
      obtain ⟨ws, hws⟩ : ∃ ws, wr.alloc (.cells #[.pointer (some ⟨T, 0, none⟩)] 66) = ws := ⟨_, rfl⟩
      have hzs : ws.heap.size = cN + 1 := by rw [← hws, World.size_alloc, hcN]
      have hEn : Env ws T tv tb J cN := by rw [← hws, ← hcN]; exact env_new hLR.env.tab hLR.env.few
      rw [hws, hcN] at cO
      have hbs : Below wr.heap.size wr ws := by rw [← hws]; exact (Below.refl _ wr).alloc (Nat.le_refl _) _
      have cF := hof_any (lz_bet T tv tb J cN) u2 (M.map entOf) ws (HO.out.below hbs).reads HO.out.nilNone (by rw [List.length_map]; omega) hEn (fun y hy => by
        obtain ⟨z, hz, rfl⟩ := List.mem_map.1 hy
        exact fits_ent (HSN.out.ents z (HP.out.mem_iff.1 hz)).1)
      have HBS := Lib.hid hbs
      have HEN := Lib.hid hEn
      have HZS := Lib.hid hzs
      have HCN := Lib.hid hcN
      clear hLR hbs hEn hzs hws hcN e1 e2 e3 e4 e5 e6
      go_wp2_with fail
      refine cO.mono ?_
      rintro e w5 ⟨rfl, rfl⟩
      clear cO
      go_wp2_with fail
      refine cF.mono ?_
      rintro e w6 ⟨H', v', A', rfl, hpm, hord, hhp, hb6⟩
      have HPM := Lib.hid hpm; have HORD := Lib.hid hord; have HHP := Lib.hid hhp; have HB6 := Lib.hid hb6
      clear hpm hord hhp hb6 cF
      have hL6 := HLR.out.below (HBS.out.trans (HB6.out.mono HBS.out.size))
      obtain ⟨_, f1, _, _, _, _, f8⟩ := hL6.cells
      have g1 := hL6.frozen 1
      obtain ⟨w7, hw7⟩ : ∃ w7, w6.setCell ⟨K, 1, none⟩ (.pointer (some ⟨H', 0, none⟩)) = w7 := ⟨_, rfl⟩
      have hb7 := heap_setCell_at hL6.box (i := 1) (.pointer (some ⟨H', 0, none⟩))
      rw [hw7] at hb7
      have f88 : w7.cell? ⟨K, 8, none⟩ = some (.int .i64 q.re) := by rw [cell_of_row w7 K _ _ 116 (0, 0) hb7]; rfl
      have g88 : w7.frozen? ⟨K, 8, none⟩ = false := Lib.frozen_of_heap hb7 _
      have hb8 := heap_setCell_at hb7 (i := 8) (.int .i64 (q.re + 1))
      obtain ⟨w8, hw8⟩ : ∃ w8, w7.setCell ⟨K, 8, none⟩ (.int .i64 (q.re + 1)) = w8 := ⟨_, rfl⟩
      rw [hw8] at hb8
      have hre0 := HH.out.sane.re.1
      have hwr8 : IntKind.i64.wrap (q.re + 1) = q.re + 1 := IntWalk.i64_in _ (by omega)
      have hk68 : ∀ k, k ≠ K → w8.heap[k]? = w6.heap[k]? := fun k hk => by
        rw [← hw8, Below.heap_setCell _ ⟨K, 8, none⟩ _ k hk, ← hw7, Below.heap_setCell _ ⟨K, 1, none⟩ _ k hk]
      have hKlt := HH.out.ltK
      have hsz6 := HB6.out.size
      have hbsz := HB.out.size
      have hE6 := HEN.out.kept (w' := w6) fun k h1 _ => HB6.out.block k h1
      have hcs : cN < w5.heap.size := by have := HZS.out; omega
      have hcw : w.heap.size ≤ cN := by rw [← HCN.out]; exact hbsz
      have HL8 : Hid (LRet w K T H c m v tv tb J { q with ents := itemsOf q.known, re := q.re + 1 } w8) := Lib.hid ⟨H', cN, v', A', 0, _,
        ⟨hb8, hE6.kept fun k h1 h2 => hk68 k (fun e => by
            rcases h2 with h2 | h2
            · exact (hL6.apart.1 k (.inl h2)) (.inl e)
            · omega),
          (HHP.out.kept fun k h1 h2 => hk68 k (fun e => by
            have := (HHP.out.inB k h2).1
            omega)).mono (Nat.zero_le _), HORD.out, hL6.map.kept (hk68 m fun e => hL6.apart.2.2.2 e.symm), HPM.out.trans (HP.out.map entOf), HSN.out, ⟨Int.le_refl _, by
            have := HH.out.sane.po; have := HH.out.sane.cnt; show 0 ≤ q.pu; omega⟩, hL6.sep⟩,
        by
          rw [← hw8, ← hw7]
          exact ((Kept.of_below (S := mineL K H m v) (HB.out.trans ((HBS.out.trans (HB6.out.mono HBS.out.size)).mono hbsz)) (Nat.le_refl _)).setCell ⟨K, 1, none⟩ _ fun _ => .inl rfl).setCell ⟨K, 8, none⟩ _ fun _ => .inl rfl,
        fun k h1 h2 => by
          rcases h1 with (h1 | h1 | h1) | h1
          · exact .inl (.inl h1)
          · exact .inl (.inr (.inl h1))
          · have := (HHP.out.inB k h1).1
            have := HBS.out.size
            omega
          · omega⟩
      clear hL6 hb7 hb8 hk68 hE6
      go_wp2
      go_end0
      exact ⟨rfl, HL8.out⟩
    · intro p1 p2 cc w3 cnt3 hfp hlx hat hrg3 hlt hg3 hen
      have HF := Lib.hid hfp; have HL := Lib.hid hlx; have HX := Lib.hid hat; have HR3 := Lib.hid hrg3; have HT := Lib.hid hlt; have HG3 := Lib.hid hg3
      have HO3 : Hid (ownE entE w3 w.heap.size u2 (M.map entOf)) := Lib.hid (HO.out.kept fun g hg => HG3.out.block g (HO.out.lt g hg).2 (fun e => by
        have := row_ne_iter HO.out HR.out
        rw [hg] at this; exact this e.symm))
      have hbel3 : Below w.heap.size w w3 := HB.out.grown HG3.out HB.out.size fun g e => by cases e; exact HS1.out
      obtain ⟨w4, hw4⟩ : ∃ w4, w3.alloc (.cells #[.int .i64 p1, .int .i64 p2] 77) = w4 := ⟨_, rfl⟩
      have hx4 : w4.heap[w3.heap.size]? = some (.cells #[.int .i64 p1, .int .i64 p2] 77 (0, 0)) := by rw [← hw4]; exact heap_alloc_new w3 _
      have x0 : w4.cell? ⟨w3.heap.size, 0, none⟩ = some (.int .i64 p1) := by rw [cell_of_row w4 _ _ _ 77 (0, 0) hx4]; rfl
      have x1 : w4.cell? ⟨w3.heap.size, 1, none⟩ = some (.int .i64 p2) := by rw [cell_of_row w4 _ _ _ 77 (0, 0) hx4]; rfl
      have hb34 : Below w3.heap.size w3 w4 := by rw [← hw4]; exact (Below.refl _ w3).alloc (Nat.le_refl _) _
      have hmem : ((p1, p2), cc) ∈ q.known := by
        have h5 := HD.out.has (p1, p2) hfp
        rw [has_true_of_atKey hat] at h5
        have h6 := get_in h5.symm
        have h7 := HD.out.tell (p1, p2) hfp
        rw [hat] at h7
        have e : cc = getC q.known (p1, p2) := by simpa using h7
        rw [e]; exact h6
      obtain ⟨k1, k2, k3, k4, k5⟩ := HH.out.sane.known _ hmem
      have hfi : FitsI (p1, p2, cc) := ⟨hfp.1, hfp.2, by unfold FitsN; simp only at k4 k5 ⊢; omega⟩
      have cP := place_any (K := K) (T := T) (tv := tv) (tb := tb) (J := J) (w := w4) (p1, p2, cc) (HH.out.below (hbel3.trans (hb34.mono hbel3.size))).tee hfi
      rw [place_there (x := (p1, p2, cc)) k2 k3] at cP
      unfold itemV entV entOf at cP
      simp only at cP
      have HB34 := Lib.hid hb34
      have HB3 := Lib.hid hbel3
      clear hfp hlx hat hrg3 hlt hg3 hbel3 hb34 hmem hx4 k1 k2 k3 k4 k5 hfi
      go_wp2_with fail
      refine cP.mono ?_
      rintro e w5 ⟨rfl, hg⟩
      have hb35 : Below w3.heap.size w3 w5 := HB34.out.trans (hg.below.mono HB34.out.size)
      obtain ⟨w6, hw6⟩ : ∃ w6, w5.alloc (.cells #[.int .i64 p1, .int .i64 p2, .int .i64 cc, .int .i64 p1, .int .i64 p2, .int .i64 cc] 111) = w6 := ⟨_, rfl⟩
      have hb36 : Below w3.heap.size w3 w6 := by rw [← hw6]; exact hb35.alloc hb35.size _
      have HE6 : Hid (eltsAt entE w6 (.slice (some ⟨w5.heap.size, 0, none⟩) 1 1) [entOf (p1, p2, cc)]) := Lib.hid (by rw [← hw6]; exact one_elt entE w5 (entOf (p1, p2, cc)))
      have HO6 : Hid (ownE entE w6 w.heap.size u2 (M.map entOf)) := Lib.hid (HO3.out.below hb36)
      have HB36 := Lib.hid hb36
      have HZ : Hid (w.heap.size ≤ w6.heap.size) := Lib.hid (by have := hb36.size; have := HB3.out.size; omega)
      have hMl2 : (M.map entOf).length ≤ n := by rw [List.length_map]; exact hMl
      clear hg cP hb35 hb36 hw4
      go_wp2_with (at_builtin; refine wpList_append_elts entE rfl (.tmp 21) (.tmp 27) rfl w.heap.size u2 _ (M.map entOf) [entOf (p1, p2, cc)] rfl rfl HO6.out HE6.out (someNone _ _ _) (by simp only [List.length_singleton]; omega) HZ.out ?_; intro r7 w7 hown7 hg7 _; have HO7 := Lib.hid hown7; have HG7 := Lib.hid hg7; clear hown7 hg7)
      have HS := Lib.hid (re_step HB.out HM.out HF.out HL.out HD.out HX.out HS1.out HG3.out HR3.out HO3.out HB36.out HO7.out HG7.out)
      go_roundw
      case rel => exact HS.out.1
      case measure => rw [HS.out.2.left_eq, HR.out.left_eq]; exact HT.out
end Go.Proofs.YtnmacalbbmeedaaGreat
