/- What PairTells' walk leans on. -/
import Derived.Test.YthjblamfkfclhaaROrder
import Derived.Test.YthjblamfkfclhaaBestWalk
namespace Go.Proofs.Ythjblamfkfclhaa
open Go.RowKit Go.Maps Go.Shelf
open Go.Sort (grow SWO)

theorem pairwise_unique {R : Nat → Nat → Prop} (hR : ∀ a b, R a b → ¬ R b a) : ∀ {a b : List Nat}, a.Perm b → a.Pairwise R → b.Pairwise R → a = b
  | [], b, h, _, _ => (List.nil_perm.1 h).symm
  | x :: a, [], h, _, _ => absurd h.length_eq (by simp)
  | x :: a, y :: b, h, ha, hb => by
    rw [List.pairwise_cons] at ha hb
    by_cases e : x = y
    · subst e
      rw [pairwise_unique hR h.cons_inv ha.2 hb.2]
    · exfalso
      have h1 : x ∈ b := by
        have := h.mem_iff.1 (List.mem_cons_self ..)
        rcases List.mem_cons.1 this with k | k
        · exact absurd k e
        · exact k
      have h2 : y ∈ a := by
        have := h.mem_iff.2 (List.mem_cons_self ..)
        rcases List.mem_cons.1 this with k | k
        · exact absurd k.symm e
        · exact k
      exact hR _ _ (ha.1 y h2) (hb.1 x h1)
theorem sorted_order {J : List Joint} {L : List Item} {d e : List Nat} (h : Sorted J L d) (k : OrdUpto J L L.length e) : d = e :=
  pairwise_unique (fun a b h1 h2 => by rw [lex_asymm (ltI_swo J L) h1] at h2; cases h2) (h.1.trans k.1.symm) h.2 k.2
/-! Two rows of different kinds. -/
theorem own_ints {W w2 : World} {b : Nat} {vp vc : Value} {P : List (Int × Int)} {C : List Int} (hp : ownE pairE W b vp P) (hc : ownE intE W b vc C) (hg : W.grownBy w2 vp.ownBlock) : ownE intE w2 b vc C :=
  hc.kept fun g hgo => hg.block g (hc.lt g hgo).2 fun e => by
    obtain ⟨cs, h1⟩ := hp.block g e.symm
    obtain ⟨cs2, h2⟩ := hc.block g hgo
    rw [h1] at h2
    have := congrArg (fun o => match o with | some (Obj.cells _ t _) => t | _ => 0) h2
    simp [pairE, intE] at this
theorem own_pairs {W w2 : World} {b : Nat} {vp vc : Value} {P : List (Int × Int)} {C : List Int} (hp : ownE pairE W b vp P) (hc : ownE intE W b vc C) (hg : W.grownBy w2 vc.ownBlock) : ownE pairE w2 b vp P :=
  hp.kept fun g hgo => hg.block g (hp.lt g hgo).2 fun e => by
    obtain ⟨cs, h1⟩ := hc.block g e.symm
    obtain ⟨cs2, h2⟩ := hp.block g hgo
    rw [h1] at h2
    have := congrArg (fun o => match o with | some (Obj.cells _ t _) => t | _ => 0) h2
    simp [pairE, intE] at this
/-- A literal of one element is not the row that grows. -/
theorem lit_kept {α : Type} {R : Elt α} {wr W w2 : World} {b N : Nat} {v : Value} {x : α} {β : Type} {R2 : Elt β} {A : List β} (h : eltsAt R W (.slice (some ⟨N, 0, none⟩) 1 1) [x]) (ho : ownE R2 wr b v A) (hN : wr.heap.size ≤ N) (hNW : N < W.heap.size) (hg : W.grownBy w2 v.ownBlock) : eltsAt R w2 (.slice (some ⟨N, 0, none⟩) 1 1) [x] :=
  h.kept hg.size fun a n c e => by
    cases e
    exact hg.block N hNW fun e => by have := (ho.lt N e.symm).2; omega
theorem below_own2 {α : Type} {R : Elt α} {w5 W w2 : World} {v : Value} {A : List α} (h : Below w5.heap.size w5 W) (hg : W.grownBy w2 v.ownBlock) (ho : ownE R W w5.heap.size v A) : Below w5.heap.size w5 w2 := h.grown hg h.size fun k e => (ho.lt k e).1
theorem take_prs {L : List Item} {j : Nat} (h : j < L.length) {p q n : Int} (hp : L[j] = (p, q, n)) : (L.take (j + 1)).map prs = (L.take j).map prs ++ [(p, q)] := by
  rw [List.take_succ_eq_append_getElem h, List.map_append, hp]; rfl
theorem take_cnt {L : List Item} {j : Nat} (h : j < L.length) {p q n : Int} (hp : L[j] = (p, q, n)) : (L.take (j + 1)).map cnt = (L.take j).map cnt ++ [n] := by
  rw [List.take_succ_eq_append_getElem h, List.map_append, hp]; rfl
/-- The rows of pairs and of counts so far. -/
def Rows2 (L : List Item) (w5 : World) (x y z : Value) (wr : World) : Prop := ∃ j : Nat, z = .int .i64 (j : Int) ∧ j ≤ L.length ∧ ownE pairE wr w5.heap.size x ((L.take j).map prs) ∧ ownE intE wr w5.heap.size y ((L.take j).map cnt) ∧ Below w5.heap.size w5 wr
theorem orderB {w wr : World} {K K2 : Nat} {J : List Joint} (h : Both w K K2 J J wr) (hJ : J.length ≤ 900000) {L : List Item} {v u : Value} (hv : eltsAt pairE wr v (L.map prs)) (hu : eltsAt intE wr u (L.map cnt)) (hL : L.length ≤ 1000) (hf : ∀ q ∈ L, FitsI q) :
    Calls Try.prog 8 #[.pointer (some ⟨K2, 0, none⟩), v, u] wr fun e w' => OrderRet J L wr e w' := by
  have hg := h.good
  obtain ⟨v1, b, v2, p2, h1, h2, h3, h4⟩ := h
  exact order_any _ K2 v2 p2 J L v u wr h3 hg (by omega) hv hu hL hf
theorem bestNoneB {w wr : World} {K K2 : Nat} {J J2 : List Joint} (_ : Both w K K2 J J2 wr) (a : Option Addr) (cap : Nat) : Calls Try.prog 10 #[.pointer (some ⟨K, 0, none⟩), .slice a 0 cap] wr fun e w' => e = .returned (.tuple #[.agg #[.int .i64 0, .int .i64 0, .int .i64 0], .bool false]) ∧ Below wr.heap.size wr w' := pbest_none K a cap wr
theorem rbetterG {w wr : World} {K K2 : Nat} {J : List Joint} (h : Both w K K2 J J wr) (hJ : J.length ≤ 900000) (p q n r s m : Int) (k : Nat) (os : Array Obj) :
    Calls Try.prog 14 #[.pointer (some ⟨K2, 0, none⟩), .agg #[.int .i64 p, .int .i64 q], .int .i64 n, .agg #[.int .i64 r, .int .i64 s], .int .i64 m] (grow (wr.drewN k) os) fun e w'' => e = .returned (.bool (betterOf J (p, q, n) (r, s, m))) ∧ ∃ p : GrownBy, w'' = grow (wr.drewN p.n) p.os := by
  have hg := h.good
  obtain ⟨v1, b, v2, p2, h1, h2, h3, h4⟩ := h.grown (Grown.of wr k os)
  exact Calls.grown_of (rbetter_any _ K2 v2 p2 J p q n r s m _ h3 hg (by omega))
theorem raheadG {w wr : World} {K K2 : Nat} {J : List Joint} (h : Both w K K2 J J wr) (hJ : J.length ≤ 900000) (p q r s : Int) (k : Nat) (os : Array Obj) :
    Calls Try.prog 12 #[.pointer (some ⟨K2, 0, none⟩), .agg #[.int .i64 p, .int .i64 q], .agg #[.int .i64 r, .int .i64 s]] (grow (wr.drewN k) os) fun e w'' => e = .returned (.bool (aheadOf J (p, q) (r, s))) ∧ ∃ p : GrownBy, w'' = grow (wr.drewN p.n) p.os := by
  have hg := h.good
  obtain ⟨v1, b, v2, p2, h1, h2, h3, h4⟩ := h.grown (Grown.of wr k os)
  exact Calls.grown_of (rahead_any _ K2 v2 p2 J p q r s _ h3 hg (by omega))
theorem aheadG {w wr : World} {K K2 : Nat} {J J2 : List Joint} (h : Both w K K2 J J2 wr) (hJ : J.length ≤ 900000) {p q n r s m : Int} (hx : FitsI (p, q, n)) (hy : FitsI (r, s, m)) (k : Nat) (os : Array Obj) :
    Calls Try.prog 11 #[.pointer (some ⟨K, 0, none⟩), .agg #[.int .i64 p, .int .i64 q], .agg #[.int .i64 r, .int .i64 s]] (grow (wr.drewN k) os) fun e w'' => e = .returned (.bool (aheadOf J (p, q) (r, s))) ∧ ∃ p : GrownBy, w'' = grow (wr.drewN p.n) p.os := by
  obtain ⟨v1, b, v2, p2, h1, h2, h3, h4⟩ := h.grown (Grown.of wr k os)
  exact Calls.grown_of (pahead_any K v1 b J p q r s _ h1 (by omega) hx.1 hx.2.1 hy.1 hy.2.1)
theorem Out.below {w w' : World} {v : Value} {d : List Nat} (h : Out w v d) (hb : Below w.heap.size w w') : Out w' v d := ⟨h.1.below hb (Nat.le_refl _), h.2⟩
end Go.Proofs.Ythjblamfkfclhaa
