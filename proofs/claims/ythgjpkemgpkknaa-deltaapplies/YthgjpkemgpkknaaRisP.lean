/- What a map of pairs has, rising. -/
import Derived.Test.YthgjpkemgpkknaaSortQ
import Derived.Test.YthgjpkemgpkknaaCts
import Derived.Laws.IdiomRangeMap
namespace Go.Proofs.Ythgjpkemgpkknaa
open Go.RowKit Go.Maps

/-- A range's step over a map of pairs. -/
theorem wpList_next_pairs (w : World) {ops : Array Oper} {rest : List Oper} {o : Oper} {a : Act} {Q : Exit → Act → World → Prop} (hg : o.guard = none) (it : Operand) (hop : o.op = Op.next it false) (D : DataW Unit) (b r n : Nat) (left : Lit → Bool) (cnt : Nat)
    (hit : a.eval it = .pointer (some ⟨r, 0, none⟩)) (h : w.ranges Try.prog 24 (plainElem Try.prog 3) b r n D left cnt)
    (hDone : cnt = 0 → (∀ kl, left kl = false) → wpList Try.prog ops Q rest (a.put o.dst (.tuple #[.bool false])) w)
    (hMore : ∀ (p : Int × Int) (c : Int) (w' : World) (cnt' : Nat), FitsPr p → left (pk p) = true → (∀ zd, D.atKey (pk p) zd = .lit (.int .i64 c)) → w'.ranges Try.prog 24 (plainElem Try.prog 3) b r n D (fun z => left z && !z.sameKey (pk p)) cnt' → cnt' < cnt →
      w.grownBy w' (some r) → (Instr.entry (.pointer (some ⟨r, 0, none⟩))).run Try.prog w' = .ok (.tuple #[.agg #[.int .i64 p.1, .int .i64 p.2], .int .i64 c]) w' → wpList Try.prog ops Q rest (a.put o.dst (.tuple #[.bool true, .agg #[.int .i64 p.1, .int .i64 p.2], .int .i64 c])) w') :
    wpList Try.prog ops Q (o :: rest) a w :=
  wpList_next_ranges w hg it hop 24 lawP (plainElem Try.prog 3) pv (Value.int .i64) (fun key kl hkey => by obtain ⟨p, rfl, _⟩ := key_pair_inv hkey; exact ⟨p, rfl⟩) (fun v y hv => by obtain ⟨c, rfl, _⟩ := plainElem_int_inv Try.underlying3 hv; exact ⟨c, rfl⟩)
    b r n D left cnt hit h hDone (fun x c kl y w' cnt' hkey hlk hv hat hrg hlt hgr hsz hen => by
      obtain ⟨p, ex, rfl, hp⟩ := key_pair_inv hkey
      obtain ⟨c', ec, rfl, hwc⟩ := plainElem_int_inv Try.underlying3 hv
      cases ec
      have e : x = p := by
        unfold pv at ex
        simp only [Value.agg.injEq, Array.mk.injEq, List.cons.injEq, Value.int.injEq, true_and, and_true] at ex
        exact Prod.ext ex.1 ex.2
      subst e
      exact hMore x c w' cnt' hp hlk hat hrg hlt hgr hen)
def RisRel (w : World) (b r : Nat) (D : DataW Unit) (L : Cn) (v : Value) (wr : World) : Prop :=
  ∃ (left : Lit → Bool) (cnt : Nat) (M : List (Int × Int)), wr.ranges Try.prog 24 (plainElem Try.prog 3) b r L.length D left cnt ∧ ownE pairE wr w.heap.size v M ∧ (∀ p, p ∈ M ↔ FitsPr p ∧ inC L p = true ∧ left (pk p) = false) ∧
    (M.Pairwise fun x y => x ≠ y) ∧ M.length + cnt ≤ L.length ∧ Below w.heap.size w wr
theorem own_ne_cmap {w : World} {b m : Nat} {v : Value} {M : List (Int × Int)} {n : Nat} {D : DataW Unit} (h : ownE pairE w b v M) (hm : w.ownsMap Try.prog 24 (plainElem (H := Unit) Try.prog 3) m n D) : some m ≠ v.ownBlock := by
  intro e
  obtain ⟨cs, hc⟩ := h.block m e.symm
  obtain ⟨es, clock, hb, _⟩ := hm
  rw [hc] at hb; cases hb
theorem ris_mem {M : List (Int × Int)} {D : DataW Unit} {L : Cn} {left : Lit → Bool} {p : Int × Int} {c : Int} (hM : ∀ p, p ∈ M ↔ FitsPr p ∧ inC L p = true ∧ left (pk p) = false) (hp : FitsPr p) (hl : left (pk p) = true)
    (hD : ReadsC D L) (hat : ∀ zd, D.atKey (pk p) zd = .lit (.int .i64 c)) :
    (∀ q, q ∈ M ++ [p] ↔ FitsPr q ∧ inC L q = true ∧ (left (pk q) && !(pk q).sameKey (pk p)) = false) ∧ (M.Pairwise (fun x y => x ≠ y) → (M ++ [p]).Pairwise fun x y => x ≠ y) := by
  have h2 := hD.has p hp
  rw [has_true_of_atKey hat] at h2
  constructor
  · intro q
    rw [List.mem_append, List.mem_singleton, hM]
    constructor
    · rintro (⟨a1, a2, a4⟩ | rfl)
      · exact ⟨a1, a2, by rw [a4]; rfl⟩
      · exact ⟨hp, h2.symm, by rw [WideAt.sameKey_self (pk_key _)]; simp⟩
    · rintro ⟨a1, a2, a4⟩
      by_cases e : q = p
      · exact .inr e
      · refine .inl ⟨a1, a2, ?_⟩
        rw [sameKey_ne fun k => e (pk_inj a1 hp k)] at a4
        simpa using a4
  · intro hn
    refine List.pairwise_append.2 ⟨hn, List.pairwise_singleton _ _, fun x hx y hy => ?_⟩
    rw [List.mem_singleton] at hy
    subst hy
    rintro rfl
    have := ((hM x).1 hx).2.2
    rw [hl] at this
    cases this
theorem ris_step {w wr w1 w2 : World} {b r cnt cnt' : Nat} {D : DataW Unit} {L : Cn} {M : List (Int × Int)} {v v' : Value} {left : Lit → Bool} {p : Int × Int} {c : Int} (o o2 : Obj) (hb : Below w.heap.size w wr) (hM : ∀ p, p ∈ M ↔ FitsPr p ∧ inC L p = true ∧ left (pk p) = false) (hn : M.Pairwise fun x y => x ≠ y) (hp : FitsPr p) (hl : left (pk p) = true)
    (hD : ReadsC D L) (hat : ∀ zd, D.atKey (pk p) zd = .lit (.int .i64 c))
    (hrr : w.heap.size ≤ r) (hg : wr.grownBy w1 (some r)) (h1 : w1.ranges Try.prog 24 (plainElem (H := Unit) Try.prog 3) b r L.length D (fun z => left z && !z.sameKey (pk p)) cnt') (hv : ownE pairE w1 w.heap.size v M) (hcnt : M.length + cnt ≤ L.length) (hlt : cnt' < cnt)
    (h2 : ownE pairE w2 w.heap.size v' (M ++ [p])) (hg2 : ((w1.alloc o).alloc o2).grownBy w2 v.ownBlock) :
    RisRel w b r D L v' w2 ∧ w2.ranges Try.prog 24 (plainElem (H := Unit) Try.prog 3) b r L.length D (fun z => left z && !z.sameKey (pk p)) cnt' := by
  have hv' := (hv.alloc o).alloc o2
  have h0 := (h1.alloc o).alloc o2
  have h3 := h0.kept hg2 (own_ne_cmap hv' h0.owns) (row_ne_iter hv' h0)
  have hs := hb.size
  have hs1 := hg.size
  have hb1 : Below w.heap.size w w1 := hb.grown hg hs fun g e => by cases e; exact hrr
  obtain ⟨m1, m2⟩ := ris_mem hM hp hl hD hat
  exact ⟨⟨_, cnt', M ++ [p], h3, h2, m1, m2 hn, by simp; omega, ((hb1.alloc (by omega) o).alloc (by rw [World.size_alloc]; omega) _).grown hg2 (by rw [World.size_alloc, World.size_alloc]; omega) fun g e => (hv.lt g e).1⟩, h3⟩
theorem ris_keys {L : Cn} (h : RisC L) : (L.map (·.1)).Pairwise pb := List.pairwise_map.2 h
theorem keys_of {L : Cn} {M X : List (Int × Int)} (hL : RisC L) (hf : ∀ x ∈ L, FitsPr x.1) (hM : ∀ p, p ∈ M ↔ FitsPr p ∧ inC L p = true) (hp : X.Perm M) (hX : X.Pairwise pb) : X = L.map (·.1) := by
  refine rising_unique (fun _ _ h => pb_asymm h) (fun p => ?_) hX (ris_keys hL)
  rw [hp.mem_iff, hM, List.mem_map, inC_iff]
  constructor
  · rintro ⟨_, c, hc⟩; exact ⟨_, hc, rfl⟩
  · rintro ⟨x, hx, rfl⟩; exact ⟨hf x hx, x.2, hx⟩
end Go.Proofs.Ythgjpkemgpkknaa
