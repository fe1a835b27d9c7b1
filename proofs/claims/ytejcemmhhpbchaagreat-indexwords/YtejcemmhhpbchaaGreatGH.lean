/- Texts in one: RisP, RisW. -/
import Derived.Test.YtejcemmhhpbchaaGreatSortQV
import Derived.Test.YtejcemmhhpbchaaGreatCtsV
import Derived.Laws.IdiomRangeMap
/- What a map of pairs has, rising. -/
namespace Go.Proofs.YtejcemmhhpbchaaGreat
open Go.RowKit Go.Maps

set_option maxRecDepth 100000 in
/-- A range's step over a map of pairs. -/
theorem dwpList_next_pairs (w : World) {ops : Array Oper} {rest : List Oper} {o : Oper} {a : Act} {Q : Exit → Act → World → Prop} (hg : o.guard = none) (it : Operand) (hop : o.op = Op.next it false) (D : DataW Unit) (b r n : Nat) (left : Lit → Bool) (cnt : Nat)
    (hit : a.eval it = .pointer (some ⟨r, 0, none⟩)) (h : w.ranges Tryz.prog 37 (plainElem Tryz.prog 3) b r n D left cnt)
    (hDone : cnt = 0 → (∀ kl, left kl = false) → wpList Tryz.prog ops Q rest (a.put o.dst (.tuple #[.bool false])) w)
    (hMore : ∀ (p : Int × Int) (c : Int) (w' : World) (cnt' : Nat), FitsPr p → left (pk p) = true → (∀ zd, D.atKey (pk p) zd = .lit (.int .i64 c)) → w'.ranges Tryz.prog 37 (plainElem Tryz.prog 3) b r n D (fun z => left z && !z.sameKey (pk p)) cnt' → cnt' < cnt →
      w.grownBy w' (some r) → (Instr.entry (.pointer (some ⟨r, 0, none⟩))).run Tryz.prog w' = .ok (.tuple #[.agg #[.int .i64 p.1, .int .i64 p.2], .int .i64 c]) w' → wpList Tryz.prog ops Q rest (a.put o.dst (.tuple #[.bool true, .agg #[.int .i64 p.1, .int .i64 p.2], .int .i64 c])) w') :
    wpList Tryz.prog ops Q (o :: rest) a w :=
  wpList_next_ranges w hg it hop 37 lawP (plainElem Tryz.prog 3) pv (Value.int .i64) (fun key kl hkey => by obtain ⟨p, rfl, _⟩ := key_pair_inv hkey; exact ⟨p, rfl⟩) (fun v y hv => by obtain ⟨c, rfl, _⟩ := plainElem_int_inv Tryz.underlying3 hv; exact ⟨c, rfl⟩)
    b r n D left cnt hit h hDone (fun x c kl y w' cnt' hkey hlk hv hat hrg hlt hgr hsz hen => by
      obtain ⟨p, ex, rfl, hp⟩ := key_pair_inv hkey
      obtain ⟨c', ec, rfl, hwc⟩ := plainElem_int_inv Tryz.underlying3 hv
      cases ec
      have e : x = p := by
        unfold pv at ex
        simp only [Value.agg.injEq, Array.mk.injEq, List.cons.injEq, Value.int.injEq, true_and, and_true] at ex
        exact Prod.ext ex.1 ex.2
      subst e
      exact hMore x c w' cnt' hp hlk hat hrg hlt hgr hen)
def DRisRel (w : World) (b r : Nat) (D : DataW Unit) (L : Cn) (v : Value) (wr : World) : Prop :=
  ∃ (left : Lit → Bool) (cnt : Nat) (M : List (Int × Int)), wr.ranges Tryz.prog 37 (plainElem Tryz.prog 3) b r L.length D left cnt ∧ ownE pairE wr w.heap.size v M ∧ (∀ p, p ∈ M ↔ FitsPr p ∧ inC L p = true ∧ left (pk p) = false) ∧
    (M.Pairwise fun x y => x ≠ y) ∧ M.length + cnt ≤ L.length ∧ Below w.heap.size w wr
set_option maxRecDepth 100000 in
theorem own_ne_cmap {w : World} {b m : Nat} {v : Value} {M : List (Int × Int)} {n : Nat} {D : DataW Unit} (h : ownE pairE w b v M) (hm : w.ownsMap Tryz.prog 37 (plainElem (H := Unit) Tryz.prog 3) m n D) : some m ≠ v.ownBlock := by
  intro e
  obtain ⟨cs, hc⟩ := h.block m e.symm
  obtain ⟨es, clock, hb, _⟩ := hm
  rw [hc] at hb; cases hb
set_option maxRecDepth 100000 in
theorem dris_mem {M : List (Int × Int)} {D : DataW Unit} {L : Cn} {left : Lit → Bool} {p : Int × Int} {c : Int} (hM : ∀ p, p ∈ M ↔ FitsPr p ∧ inC L p = true ∧ left (pk p) = false) (hp : FitsPr p) (hl : left (pk p) = true)
    (hD : ReadsC D L) (hat : ∀ zd, D.atKey (pk p) zd = .lit (.int .i64 c)) :
    (∀ q, q ∈ M ++ [p] ↔ FitsPr q ∧ inC L q = true ∧ (left (pk q) && !(pk q).sameKey (pk p)) = false) ∧ (M.Pairwise (fun x y => x ≠ y) → (M ++ [p]).Pairwise fun x y => x ≠ y) := by
  have h2 := hD.has p hp
  rw [has_true_of_atKey hat] at h2
  constructor
  · intro q
    rw [List.mem_append, List.mem_singleton, hM]
    constructor
    · rintro (⟨a1, a2, a4⟩ | rfl)
      · exact ⟨a1, a2, by rw [a4]; rfl⟩
      · exact ⟨hp, h2.symm, by rw [WideAt.sameKey_self (pk_key _)]; simp⟩
    · rintro ⟨a1, a2, a4⟩
      by_cases e : q = p
      · exact .inr e
      · refine .inl ⟨a1, a2, ?_⟩
        rw [sameKey_ne fun k => e (pk_inj a1 hp k)] at a4
        simpa using a4
  · intro hn
    refine List.pairwise_append.2 ⟨hn, List.pairwise_singleton _ _, fun x hx y hy => ?_⟩
    rw [List.mem_singleton] at hy
    subst hy
    rintro rfl
    have := ((hM x).1 hx).2.2
    rw [hl] at this
    cases this
set_option maxRecDepth 100000 in
theorem dris_step {w wr w1 w2 : World} {b r cnt cnt' : Nat} {D : DataW Unit} {L : Cn} {M : List (Int × Int)} {v v' : Value} {left : Lit → Bool} {p : Int × Int} {c : Int} (o o2 : Obj) (hb : Below w.heap.size w wr) (hM : ∀ p, p ∈ M ↔ FitsPr p ∧ inC L p = true ∧ left (pk p) = false) (hn : M.Pairwise fun x y => x ≠ y) (hp : FitsPr p) (hl : left (pk p) = true)
    (hD : ReadsC D L) (hat : ∀ zd, D.atKey (pk p) zd = .lit (.int .i64 c))
    (hrr : w.heap.size ≤ r) (hg : wr.grownBy w1 (some r)) (h1 : w1.ranges Tryz.prog 37 (plainElem (H := Unit) Tryz.prog 3) b r L.length D (fun z => left z && !z.sameKey (pk p)) cnt') (hv : ownE pairE w1 w.heap.size v M) (hcnt : M.length + cnt ≤ L.length) (hlt : cnt' < cnt)
    (h2 : ownE pairE w2 w.heap.size v' (M ++ [p])) (hg2 : ((w1.alloc o).alloc o2).grownBy w2 v.ownBlock) :
    DRisRel w b r D L v' w2 ∧ w2.ranges Tryz.prog 37 (plainElem (H := Unit) Tryz.prog 3) b r L.length D (fun z => left z && !z.sameKey (pk p)) cnt' := by
  have hv' := (hv.alloc o).alloc o2
  have h0 := (h1.alloc o).alloc o2
  have h3 := h0.kept hg2 (own_ne_cmap hv' h0.owns) (row_ne_iter hv' h0)
  have hs := hb.size
  have hs1 := hg.size
  have hb1 : Below w.heap.size w w1 := hb.grown hg hs fun g e => by cases e; exact hrr
  obtain ⟨m1, m2⟩ := dris_mem hM hp hl hD hat
  exact ⟨⟨_, cnt', M ++ [p], h3, h2, m1, m2 hn, by simp; omega, ((hb1.alloc (by omega) o).alloc (by rw [World.size_alloc]; omega) _).grown hg2 (by rw [World.size_alloc, World.size_alloc]; omega) fun g e => (hv.lt g e).1⟩, h3⟩
set_option maxRecDepth 100000 in
theorem ris_keys {L : Cn} (h : RisC L) : (L.map (·.1)).Pairwise pb := List.pairwise_map.2 h
set_option maxRecDepth 100000 in
theorem keys_of {L : Cn} {M X : List (Int × Int)} (hL : RisC L) (hf : ∀ x ∈ L, FitsPr x.1) (hM : ∀ p, p ∈ M ↔ FitsPr p ∧ inC L p = true) (hp : X.Perm M) (hX : X.Pairwise pb) : X = L.map (·.1) := by
  refine rising_unique (fun _ _ h => pb_asymm h) (fun p => ?_) hX (ris_keys hL)
  rw [hp.mem_iff, hM, List.mem_map, inC_iff]
  constructor
  · rintro ⟨_, c, hc⟩; exact ⟨_, hc, rfl⟩
  · rintro ⟨x, hx, rfl⟩; exact ⟨hf x hx, x.2, hx⟩
end Go.Proofs.YtejcemmhhpbchaaGreat
/- The pairs of a map, and of a count, rising. -/
namespace Go.Proofs.YtejcemmhhpbchaaGreat
open Go.RowKit Go.Maps

def keysC (L : Cn) : List (Int × Int) := L.map (·.1)
def RisRet (w : World) (L : Cn) (e : Ending) (w' : World) : Prop := ∃ v, e = .returned v ∧ ownE pairE w' w.heap.size v (keysC L) ∧ Below w.heap.size w w'
set_option maxRecDepth 100000 in
set_option maxHeartbeats 2000000 in
theorem drising_any (m : Option Nat) (L : Cn) (w : World) (h : mapC w m L) (hl : L.length ≤ 1000000) : Calls Tryz.prog 55 #[.map m] w fun e w' => RisRet w L e w' := by
  have hlen := len_c h 3
  obtain ⟨i0, hi, hz0, hz1, hz2⟩ := info_parts pairE.info
  obtain ⟨n, hn⟩ : ∃ n, L.length = n := ⟨_, rfl⟩
  have HN := Lib.hid hn
  rw [hn] at hlen hl
  obtain ⟨w1, hmk, hown1, hg1⟩ := run_make_own (P := Tryz.prog) w w.heap.size 23 37 i0 _ 2 Tryz.underlying23 hi hz0 hz1 .i64 .i64 n (by rw [hz2]; show 16 * n ≤ _; omega) (by unfold maxLen; omega) (Nat.le_refl _)
  have hb1 : Below w.heap.size w w1 := (Below.refl _ w).grown hg1 (Nat.le_refl _) (by simp)
  have HB1 := Lib.hid hb1
  have HO1 : Hid (ownE pairE w1 w.heap.size (.slice (some ⟨w.heap.size, 0, none⟩) 0 n) []) := Lib.hid hown1
  have HH := Lib.hid h
  clear hown1 hg1 hi hz0 hz1 hz2 h
  cases m with
  | none =>
    obtain rfl : L = [] := HH.out
    obtain rfl : n = 0 := hn.symm
    have hrn := run_range_nilMap (P := Tryz.prog) w1 89 37 3 Tryz.underlying89
    have hnn := fun ty => run_next_nilMap (P := Tryz.prog) w1 ty 0 0 #[]
    have HO2 : Hid (ownE pairE (w1.alloc (.mapIter none 0 #[] 0)) w.heap.size (.slice (some ⟨w.heap.size, 0, none⟩) 0 0) []) := Lib.hid (HO1.out.alloc _)
    replace hmk : (Instr.makeSlice 23 (.int .i64 0) (.int .i64 0)).run Tryz.prog w = .ok (.slice (some ⟨w.heap.size, 0, none⟩) 0 0) w1 := hmk
    replace hlen : (Builtin.len_ #[89] 3 #[.map none]).run Tryz.prog w = .ok (.int .i64 0) w := hlen
    clear hn hb1
    go_enter Tryz.func55, Tryz.ntmps55
    go_wp2
    refine wp_loop_rounds 1 ?_
    rw [rounds_succ]
    go_wp2_with fail
    refine (prsort_any (.slice (some ⟨w.heap.size, 0, none⟩) 0 0) [] _ w.heap.size HO2.out List.Pairwise.nil (by simp)).mono ?_
    rintro e w5 ⟨rfl, X, hown5, hp5, _, hg5⟩
    obtain rfl : X = [] := hp5.eq_nil
    have HO5 := Lib.hid hown5; have HG5 := Lib.hid hg5
    clear hown5 hg5 hp5
    go_wp2
    go_ret
    exact ⟨_, rfl, HO5.out, (HB1.out.alloc HB1.out.size _).grown HG5.out (by rw [World.size_alloc]; have := HB1.out.size; omega) fun g e => by cases e; exact Nat.le_refl _⟩
  | some b =>
    have hcm : CMap w1 b L := CMap.kept HH.out (hb1.block b (CMap.lt HH.out))
    obtain ⟨D, hmap1, hrd⟩ := hcm
    have HD := Lib.hid hrd
    obtain ⟨w2, hrng, hrg2, hg2, hs2⟩ := World.ownsMap.range (w := w1) hmap1 lawP Tryz.underlying89
    have HR2 := Lib.hid hrg2; have HG2 := Lib.hid hg2
    have HS1 : Hid (w.heap.size ≤ w1.heap.size) := Lib.hid HB1.out.size
    obtain ⟨r, hr⟩ : ∃ r, w1.heap.size = r := ⟨_, rfl⟩
    rw [hr] at hrng HR2 HS1
    clear hr hrg2 hg2 hs2 hmap1 hb1 hn hrd
    go_enter Tryz.func55, Tryz.ntmps55
    go_wp2
    go_loopw [3] (fun v wr => DRisRel w b r D L v wr) (fun _ wr => wr.rangeLeft b r)
    case atStart =>
      refine ⟨_, _, [], HR2.out, HO1.out.kept fun g hg => HG2.out.block g (HO1.out.lt g hg).2 (by simp), fun p => ⟨fun h => by simp at h, ?_⟩, List.Pairwise.nil, by rw [HD.out.size]; simp, HB1.out.grown HG2.out HB1.out.size (by simp)⟩
      rintro ⟨h1, h2, h4⟩
      rw [HD.out.has p h1, h2] at h4
      cases h4
    case round =>
      obtain ⟨left, cnt, M, hrg, hown, hM, hnd, hcn, hbel⟩ := hrel
      have HM := Lib.hid hM; have HO := Lib.hid hown; have HB := Lib.hid hbel; have HR := Lib.hid hrg; have HND := Lib.hid hnd; have HCN := Lib.hid hcn
      clear hM hown hbel hrg hnd hcn
      go_wp2_with (at_next; refine dwpList_next_pairs _ rfl _ rfl D b r L.length left cnt rfl HR.out ?_ ?_)
      · intro _ hl0
        have HP : Hid (∀ p, p ∈ M ↔ FitsPr p ∧ inC L p = true) := Lib.hid (fun p => by rw [HM.out]; simp [hl0])
        clear hl0
        go_wp2_with fail
        refine (prsort_any u3 M _ w.heap.size HO.out HND.out (by have := HCN.out; have := HN.out; omega)).mono ?_
        rintro e w5 ⟨rfl, X, hown5, hp5, hr5, hg5⟩
        have hX : X = keysC L := keys_of HD.out.ris (fun x hx => (HD.out.fits x hx).1) HP.out hp5 hr5
        subst hX
        have HO5 := Lib.hid hown5; have HG5 := Lib.hid hg5
        clear hown5 hg5 hp5 hr5
        go_wp2
        go_ret
        exact ⟨_, rfl, HO5.out, HB.out.grown HG5.out HB.out.size fun g e => (HO.out.lt g e).1⟩
      · intro p q c w3 cnt3 hfp hlx hat hrg3 hlt hg3 hen
        have HF := Lib.hid hfp; have HL := Lib.hid hlx; have HX := Lib.hid hat; have HR3 := Lib.hid hrg3; have HT := Lib.hid hlt; have HG3 := Lib.hid hg3
        have HO3 : Hid (ownE pairE w3 w.heap.size u3 M) := Lib.hid (HO.out.kept fun g hg => HG3.out.block g (HO.out.lt g hg).2 (fun e => by
          have := row_ne_iter HO.out HR.out
          rw [hg] at this; exact this e.symm))
        have HO4 : Hid (ownE pairE ((w3.alloc (.cells #[.int .i64 p, .int .i64 q] 37)).alloc (.cells #[.int .i64 p, .int .i64 q] 37)) w.heap.size u3 M) := Lib.hid ((HO3.out.alloc _).alloc _)
        have HE4 : Hid (eltsAt pairE ((w3.alloc (.cells #[.int .i64 p, .int .i64 q] 37)).alloc (.cells #[.int .i64 p, .int .i64 q] 37)) (.slice (some ⟨w3.heap.size + 1, 0, none⟩) 1 1) [(p, q)]) := Lib.hid (by
          have := one_elt pairE (w3.alloc (.cells #[.int .i64 p, .int .i64 q] 37)) (p, q)
          rwa [World.size_alloc] at this)
        have HZ : Hid (w.heap.size ≤ ((w3.alloc (.cells #[.int .i64 p, .int .i64 q] 37)).alloc (.cells #[.int .i64 p, .int .i64 q] 37)).heap.size) := Lib.hid (by rw [World.size_alloc, World.size_alloc]; have := HB.out.size; have := HG3.out.size; omega)
        clear hfp hlx hat hrg3 hlt hg3
        go_wp2_with (at_builtin; refine wpList_append_elts pairE rfl (.tmp 14) (.tmp 16) rfl w.heap.size u3 _ M [(p, q)] rfl rfl HO4.out HE4.out (fun n c e => by cases e) (by have := HCN.out; have := HN.out; simp; omega) HZ.out ?_; intro r5 w5 hown5 hg5 _; have HO5 := Lib.hid hown5; have HG5 := Lib.hid hg5; clear hown5 hg5)
        have HS := Lib.hid (dris_step _ _ HB.out HM.out HND.out HF.out HL.out HD.out HX.out HS1.out HG3.out HR3.out HO3.out HCN.out HT.out HO5.out HG5.out)
        go_roundw
        case rel => exact HS.out.1
        case measure => rw [HS.out.2.left_eq, HR.out.left_eq]; exact HT.out
set_option maxRecDepth 100000 in
theorem dall_any (K : Nat) (m : Option Nat) (L : Cn) (w : World) (h : Cts w K m L) (hl : L.length ≤ 1000000) : Calls Tryz.prog 38 #[.pointer (some ⟨K, 0, none⟩)] w fun e w' => RisRet w L e w' := by
  obtain ⟨c0, _⟩ := h.cell
  have cR := drising_any m L w h.2 hl
  clear h
  go_enter Tryz.func38, Tryz.ntmps38
  go_wp2_with fail
  refine cR.mono ?_
  rintro e w1 ⟨v, rfl, ho, hb⟩
  have HO := Lib.hid ho; have HB := Lib.hid hb
  clear ho hb
  go_wp2
  go_ret
  exact ⟨v, rfl, HO.out, HB.out⟩
set_option maxRecDepth 100000 in
theorem dall_nil (w : World) : Calls Tryz.prog 38 #[.pointer none] w fun e w' => e = .returned (.slice none 0 0) ∧ w' = w := by
  go_enter Tryz.func38, Tryz.ntmps38
  go_wp2
  go_ret
  exact ⟨rfl, rfl⟩
end Go.Proofs.YtejcemmhhpbchaaGreat
