/- What DeltaApplies leans on: three counts, then four; the pairs that are other. -/
import Derived.Test.YthgjpkemgpkknaaApW
import Derived.Test.YthgjpkemgpkknaaHeld
namespace Go.Proofs.Ythgjpkemgpkknaa
open Go.RowKit Go.Maps

theorem RefO.row {w wr : World} {K : Nat} {L : Cn} (h : RefO w K L wr) : ∃ a c, wr.cell? ⟨K, 0, none⟩ = some (.slice a L.length c) ∧ eltsAt pairE wr (.slice a L.length c) (keysC L) ∧ K < wr.heap.size := by
  obtain ⟨v, u, h1⟩ := h
  obtain ⟨a, c, rfl, _⟩ := h1.keys.form
  obtain ⟨c0, _, _, _⟩ := rcell h1.cells
  rw [keysC_len] at c0
  have := h1.keys.reads
  rw [keysC_len] at this
  exact ⟨a, c, c0, this, (h1.lt K (.inl rfl)).2⟩
theorem runC_good {t : Int} : ∀ {X : List Chg} {L : Cn}, GoodC L → (∀ x ∈ X, FitsCh x) → GoodC (runC t L X).1
  | [], _, h, _ => h
  | x :: r, L, h, hf => by
    rw [runC]
    split
    · exact runC_good (h.add (hf x List.mem_cons_self).1 _ _) fun y hy => hf y (List.mem_cons_of_mem _ hy)
    · exact h
theorem runC_len {t : Int} : ∀ {X : List Chg} {L : Cn}, GoodC L → (∀ x ∈ X, FitsCh x) → (runC t L X).1.length ≤ L.length + X.length
  | [], _, _, _ => Nat.le_refl _
  | x :: r, L, h, hf => by
    rw [runC]
    split
    · have h1 := runC_len (t := t) (X := r) (h.add (hf x List.mem_cons_self).1 x.2 t) fun y hy => hf y (List.mem_cons_of_mem _ hy)
      have h2 := addC_len h.ris x.1 x.2 t
      simp only [List.length_cons]
      omega
    · simp
/-- The program's count, and two of the document's. -/
structure Tri (w : World) (K K2 K3 : Nat) (L M N : Cn) (wr : World) : Prop where
  own : Own1 w K L wr
  rx : RefO w K2 M wr
  rp : RefO w K3 N wr
  ne : K2 ≠ K3
  gM : GoodC M
  gN : GoodC N
theorem Tri.later {w wr w' : World} {K K2 K3 : Nat} {L M N : Cn} (h : Tri w K K2 K3 L M N wr) (hb : Below wr.heap.size wr w') : Tri w K K2 K3 L M N w' := ⟨h.own.later hb, h.rx.later hb, h.rp.later hb, h.ne, h.gM, h.gN⟩
theorem Tri.add {w wr : World} {K K2 K3 : Nat} {L M N : Cn} (h : Tri w K K2 K3 L M N wr) {p q b t : Int} (hp : FitsPr (p, q)) (hb : FitsZ b) (ht : FitsZ t) (hl : L.length ≤ 1048576) :
    Calls Try.prog 8 #[.pointer (some ⟨K, 0, none⟩), .agg #[.int .i64 p, .int .i64 q], .int .i64 b, .int .i64 t] wr fun e w' => e = .returned (.int .i64 (addC L (p, q) b t).2) ∧ Tri w K K2 K3 (addC L (p, q) b t).1 M N w' := by
  have hg := h.own.good.add hp b t
  obtain ⟨⟨⟨m, h1, h2⟩, hgo, hbel⟩, hx, hp', hne, gM, gN⟩ := h
  refine (cadd_any K m L p q b t wr h1 hgo hp hb ht hl).mono ?_
  rintro e w' ⟨rfl, hret⟩
  obtain ⟨_, _, hk, _⟩ := id hret
  exact ⟨rfl, Own1.of_ret h1 h2 hbel hg hret, hx.otherC h1 hk, hp'.otherC h1 hk, hne, gM, gN⟩
theorem Tri.addX {w wr : World} {K K2 K3 : Nat} {L M N : Cn} (h : Tri w K K2 K3 L M N wr) {p q b t : Int} (hp : FitsPr (p, q)) (hb : FitsZ b) (ht : FitsZ t) (hl : M.length ≤ 1000) :
    Calls Try.prog 9 #[.pointer (some ⟨K2, 0, none⟩), .agg #[.int .i64 p, .int .i64 q], .int .i64 b, .int .i64 t] wr fun e w' => e = .returned (.int .i64 (addC M (p, q) b t).2) ∧ Tri w K K2 K3 L (addC M (p, q) b t).1 N w' := by
  refine (raddO h.rx h.gM hb ht hl).mono ?_
  rintro e w' ⟨rfl, hr, hk⟩
  exact ⟨rfl, h.own.other h.rx hk, hr, h.rp.other h.rx h.ne hk, h.ne, h.gM.add hp b t, h.gN⟩
theorem Tri.addP {w wr : World} {K K2 K3 : Nat} {L M N : Cn} (h : Tri w K K2 K3 L M N wr) {p q b t : Int} (hp : FitsPr (p, q)) (hb : FitsZ b) (ht : FitsZ t) (hl : N.length ≤ 1000) :
    Calls Try.prog 9 #[.pointer (some ⟨K3, 0, none⟩), .agg #[.int .i64 p, .int .i64 q], .int .i64 b, .int .i64 t] wr fun e w' => e = .returned (.int .i64 (addC N (p, q) b t).2) ∧ Tri w K K2 K3 L M (addC N (p, q) b t).1 w' := by
  refine (raddO h.rp h.gN hb ht hl).mono ?_
  rintro e w' ⟨rfl, hr, hk⟩
  exact ⟨rfl, h.own.other h.rp hk, h.rx.other h.rp h.ne.symm hk, hr, h.ne, h.gM, h.gN.add hp b t⟩
/-- .. and a third of the document's, and a row that was told. -/
structure Fin4 (w : World) (K K2 K3 K4 : Nat) (L M N O : Cn) (v : Value) (Y : List (Int × Int)) (wr : World) : Prop where
  tri : Tri w K K2 K3 L M N wr
  ro : RefO w K4 O wr
  gO : GoodC O
  got : ownE pairE wr w.heap.size v Y
  ne24 : K2 ≠ K4
  ne34 : K3 ≠ K4
theorem Fin4.later {w wr w' : World} {K K2 K3 K4 : Nat} {L M N O : Cn} {v : Value} {Y : List (Int × Int)} (h : Fin4 w K K2 K3 K4 L M N O v Y wr) (hb : Below wr.heap.size wr w') : Fin4 w K K2 K3 K4 L M N O v Y w' := ⟨h.tri.later hb, h.ro.later hb, h.gO, h.got.below hb, h.ne24, h.ne34⟩
theorem got_other {w wr w' : World} {K : Nat} {M : Cn} {base : Nat} {v : Value} {Y : List (Int × Int)} (h : ownE pairE wr base v Y) (h2 : RefO w K M wr) (hk : Kept (fun k => k = K) wr w') : ownE pairE w' base v Y :=
  h.kept fun g hg => hk.block g (h.lt g hg).2 fun e => by
    subst e
    obtain ⟨cs, hc⟩ := h.block g hg
    obtain ⟨v2, u2, h3⟩ := h2
    rw [h3.cells] at hc
    have := congrArg (fun o => match o with | some (Obj.cells _ t _) => t | _ => 0) hc
    simp [pairE] at this
theorem Fin4.addX {w wr : World} {K K2 K3 K4 : Nat} {L M N O : Cn} {v : Value} {Y : List (Int × Int)} (h : Fin4 w K K2 K3 K4 L M N O v Y wr) {p q b t : Int} (hp : FitsPr (p, q)) (hb : FitsZ b) (ht : FitsZ t) (hl : M.length ≤ 1000) :
    Calls Try.prog 9 #[.pointer (some ⟨K2, 0, none⟩), .agg #[.int .i64 p, .int .i64 q], .int .i64 b, .int .i64 t] wr fun e w' => e = .returned (.int .i64 (addC M (p, q) b t).2) ∧ Fin4 w K K2 K3 K4 L (addC M (p, q) b t).1 N O v Y w' := by
  have hT := h.tri
  refine (raddO hT.rx hT.gM hb ht hl).mono ?_
  rintro e w' ⟨rfl, hr, hk⟩
  exact ⟨rfl, ⟨hT.own.other hT.rx hk, hr, hT.rp.other hT.rx hT.ne hk, hT.ne, hT.gM.add hp b t, hT.gN⟩, h.ro.other hT.rx h.ne24 hk, h.gO, got_other h.got hT.rx hk, h.ne24, h.ne34⟩
theorem Fin4.addO {w wr : World} {K K2 K3 K4 : Nat} {L M N O : Cn} {v : Value} {Y : List (Int × Int)} (h : Fin4 w K K2 K3 K4 L M N O v Y wr) {p q b t : Int} (hp : FitsPr (p, q)) (hb : FitsZ b) (ht : FitsZ t) (hl : O.length ≤ 1000) :
    Calls Try.prog 9 #[.pointer (some ⟨K4, 0, none⟩), .agg #[.int .i64 p, .int .i64 q], .int .i64 b, .int .i64 t] wr fun e w' => e = .returned (.int .i64 (addC O (p, q) b t).2) ∧ Fin4 w K K2 K3 K4 L M N (addC O (p, q) b t).1 v Y w' := by
  have hT := h.tri
  refine (raddO h.ro h.gO hb ht hl).mono ?_
  rintro e w' ⟨rfl, hr, hk⟩
  exact ⟨rfl, ⟨hT.own.other h.ro hk, hT.rx.other h.ro h.ne24.symm hk, hT.rp.other h.ro h.ne34.symm hk, hT.ne, hT.gM, hT.gN⟩, hr, h.gO.add hp b t, got_other h.got h.ro hk, h.ne24, h.ne34⟩
/-- Apply, beside two of the document's. -/
theorem applyT {w wr : World} {K K2 K3 : Nat} {L M N : Cn} (h : Tri w K K2 K3 L M N wr) (v : Value) (X : List Chg) (t : Int) (hX : ∀ W, Below w.heap.size w W → eltsAt chgE W v X) (hf : ∀ x ∈ X, FitsCh x) (ht : FitsZ t) (hlX : X.length ≤ 1000) (hlL : L.length ≤ 1000) :
    Calls Try.prog 15 #[.pointer (some ⟨K, 0, none⟩), v, .int .i64 t] wr fun e w' => ∃ v' Y, e = .returned (.tuple #[v', .int .i64 (runC t L X).2]) ∧ Tri w K K2 K3 (runC t L X).1 M N w' ∧ ownE pairE w' w.heap.size v' Y ∧ ((runC t L X).2 ≠ 0 → Y = []) ∧ ((runC t L X).2 = 0 → ChgSet L (runC t L X).1 X Y) := by
  have hg := runC_good (t := t) h.own.good hf
  obtain ⟨⟨⟨m, h1, h2⟩, hgo, hbel⟩, hx, hp', hne, gM, gN⟩ := h
  refine (apply_any K m L v X t wr h1 hgo (fun W hW => hX W (Below.kept hbel hW h2 hbel.size)) hf ht hlX hlL).mono ?_
  rintro e w' ⟨v', Y, rfl, ho, hn, hc, hret⟩
  obtain ⟨_, _, hk, _⟩ := id hret
  exact ⟨v', Y, rfl, ⟨Own1.of_ret h1 h2 hbel hg hret, hx.otherC h1 hk, hp'.otherC h1 hk, hne, gM, gN⟩, ho.mono hbel.size, hn, hc⟩
/-- The document's own way through the changes. -/
def XInv (t : Int) (L : Cn) (X : List Chg) (k : Nat) (f : Int) (M : Cn) : Prop := runC t L X = if f = 0 then runC t M (X.drop k) else (M, f)
theorem XInv.next {t : Int} {L : Cn} {X : List Chg} {k : Nat} {M M' : Cn} {f : Int} (h : XInv t L X k 0 M) (hk : k < X.length) (ha : addC M X[k].1 X[k].2 t = (M', f)) : XInv t L X (k + 1) f M' := by
  unfold XInv at *
  rw [h, if_pos rfl, List.drop_eq_getElem_cons hk]
  by_cases he : f = 0
  · subst he; rw [if_pos rfl, runC_ok ha]
  · rw [if_neg he, runC_no ha he]
    rcases addC_err M X[k].1 X[k].2 t with h1 | h1
    · rw [ha] at h1; exact absurd h1 he
    · rw [ha] at h1; rw [← h1]
theorem XInv.fin {t : Int} {L : Cn} {X : List Chg} {k : Nat} {M : Cn} {f : Int} (h : XInv t L X k f M) (hk : f ≠ 0 ∨ X.length ≤ k) : runC t L X = (M, f) := by
  unfold XInv at h
  by_cases he : f = 0
  · subst he
    rw [h, if_pos rfl, List.drop_of_length_le (hk.resolve_left fun k => k rfl)]
    rfl
  · rw [h, if_neg he]
/-- Which are other, so far. -/
def OInv (L M : Cn) (X : List Chg) (k : Nat) (O : Cn) : Prop := RisC O ∧ O.length ≤ k ∧ ∀ p c, (p, c) ∈ O ↔ c = 1 ∧ seenC X k p ∧ getC M p ≠ getC L p
theorem OInv.start (L M : Cn) (X : List Chg) : OInv L M X 0 [] := ⟨List.Pairwise.nil, Nat.le_refl _, fun p c => by simp [seenC]⟩
theorem OInv.skip {L M O : Cn} {X : List Chg} {k : Nat} (h : OInv L M X k O) (hk : k < X.length) (hs : getC M X[k].1 = getC L X[k].1 ∨ getC O X[k].1 ≠ 0) : OInv L M X (k + 1) O := by
  obtain ⟨h1, h2, h3⟩ := h
  refine ⟨h1, by omega, fun p c => ?_⟩
  rw [h3, seen_succ hk]
  constructor
  · rintro ⟨a, b, d⟩; exact ⟨a, .inl b, d⟩
  · rintro ⟨a, b | rfl, d⟩
    · exact ⟨a, b, d⟩
    · rcases hs with hs | hs
      · exact absurd hs d
      · cases e : inC O X[k].1 with
        | false => exact absurd (get_out e) hs
        | true => exact ⟨a, ((h3 _ _).1 (get_in e)).2.1, d⟩
theorem OInv.new {L M O : Cn} {X : List Chg} {k : Nat} (h : OInv L M X k O) (hk : k < X.length) (hs : getC M X[k].1 ≠ getC L X[k].1) (h0 : getC O X[k].1 = 0) : addC O X[k].1 1 1 = (insC X[k].1 1 O, 0) ∧ OInv L M X (k + 1) (insC X[k].1 1 O) := by
  obtain ⟨h1, h2, h3⟩ := h
  constructor
  · unfold addC
    rw [h0, show movOf 0 1 1 = (1, true) from rfl]
    rfl
  · refine ⟨ris_ins h1, ?_, fun p c => ?_⟩
    · rw [len_ins h1]; split <;> omega
    · rw [ins_mem, h3, seen_succ hk]
      constructor
      · rintro (e | ⟨⟨a, b, d⟩, _⟩)
        · cases e; exact ⟨rfl, .inr rfl, hs⟩
        · exact ⟨a, .inl b, d⟩
      · rintro ⟨a, b, d⟩
        by_cases e : p = X[k].1
        · subst e; exact .inl (by rw [a])
        · exact .inr ⟨⟨a, b.resolve_right e, d⟩, e⟩
theorem OInv.fin {L M O : Cn} {X : List Chg} (h : OInv L M X X.length O) : ChgSet L M X (keysC O) := by
  obtain ⟨h1, _, h3⟩ := h
  refine ⟨ris_keys h1, fun p => ?_⟩
  have hs : seenC X X.length p ↔ ∃ x ∈ X, x.1 = p := by unfold seenC; rw [List.take_length]
  rw [keysC, List.mem_map, ← hs]
  constructor
  · rintro ⟨x, hx, rfl⟩; exact ((h3 _ _).1 hx).2
  · rintro h; exact ⟨(p, 1), (h3 _ _).2 ⟨rfl, h⟩, rfl⟩
/-- The document's Get, in every world that has grown. -/
theorem rgetG {w wr : World} {K : Nat} {L : Cn} (h : RefO w K L wr) (p q : Int) (hl : L.length ≤ 1000000) (n : Nat) (os : Array Obj) :
    Calls Try.prog 11 #[.pointer (some ⟨K, 0, none⟩), .agg #[.int .i64 p, .int .i64 q]] (Sort.grow (wr.drewN n) os) fun e w'' => e = .returned (.int .i64 (getC L (p, q))) ∧ ∃ p : GrownBy, w'' = Sort.grow (wr.drewN p.n) p.os := by
  refine Calls.grown_of ?_
  obtain ⟨v, u, h1⟩ := h.later (grown_below wr n os)
  refine (rget_any _ K v u L p q _ h1 hl).mono ?_
  rintro e w' ⟨rfl, m, rfl⟩
  exact ⟨rfl, m, _, by rw [Sort.alloc_eq_grow]; rfl⟩
end Go.Proofs.Ythgjpkemgpkknaa
