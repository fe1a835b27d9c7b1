/- Apply, as plain lists, and its memory. -/
import Derived.Test.YtejcemmhhpbchaaGreatDelFV
import Derived.Test.YtejcemmhhpbchaaGreatArgCV
import Derived.Test.YtejcemmhhpbchaaGreatCAddV
namespace Go.Proofs.YtejcemmhhpbchaaGreat
open Go.RowKit Go.Maps

/-- Changes added one by one, up to the first that can't be: what is there then, and the error's number. -/
def runC (t : Int) : Cn → List Chg → Cn × Int
  | L, [] => (L, 0)
  | L, x :: r => if (addC L x.1 x.2 t).2 = 0 then runC t (addC L x.1 x.2 t).1 r else (L, (addC L x.1 x.2 t).2)
set_option maxRecDepth 100000 in
theorem runC_ok {t : Int} {L M : Cn} {x : Chg} {r : List Chg} (h : addC L x.1 x.2 t = (M, 0)) : runC t L (x :: r) = runC t M r := by rw [runC, h, if_pos rfl]
set_option maxRecDepth 100000 in
theorem runC_no {t e : Int} {L M : Cn} {x : Chg} {r : List Chg} (h : addC L x.1 x.2 t = (M, e)) (he : e ≠ 0) : runC t L (x :: r) = (L, e) := by rw [runC, h, if_neg he]
set_option maxRecDepth 100000 in
theorem add_other {M : Cn} (h : RisC M) (p : Int × Int) (b t : Int) {q : Int × Int} (hq : q ≠ p) : getC (addC M p b t).1 q = getC M q := by
  unfold addC
  split
  · rfl
  · cases (movOf (getC M p) b t).2
    · rfl
    · show getC (setC M p _) q = _
      rw [get_set h, if_neg hq]
def seenC (X : List Chg) (k : Nat) (p : Int × Int) : Prop := ∃ x ∈ X.take k, x.1 = p
set_option maxRecDepth 100000 in
theorem seen_succ {X : List Chg} {k : Nat} (hk : k < X.length) (p : Int × Int) : seenC X (k + 1) p ↔ seenC X k p ∨ p = X[k].1 := by
  unfold seenC
  rw [List.take_succ_eq_append_getElem hk]
  constructor
  · rintro ⟨x, hx, rfl⟩
    rcases List.mem_append.1 hx with h | h
    · exact .inl ⟨x, h, rfl⟩
    · rw [List.mem_singleton] at h; subst h; exact .inr rfl
  · rintro (⟨x, hx, rfl⟩ | rfl)
    · exact ⟨x, List.mem_append_left _ hx, rfl⟩
    · exact ⟨_, List.mem_append_right _ (List.mem_singleton.2 rfl), rfl⟩
/-- So far: k changes are added; M is there, W tells what was. -/
structure ApInv (t : Int) (L : Cn) (X : List Chg) (k : Nat) (M W : Cn) : Prop where
  run : runC t L X = runC t M (X.drop k)
  was : ∀ p c, (p, c) ∈ W ↔ seenC X k p ∧ c = getC L p
  out : ∀ p, ¬ seenC X k p → getC M p = getC L p
  risW : RisC W
  lenM : M.length ≤ L.length + k
  lenW : W.length ≤ k
  good : GoodC M
set_option maxRecDepth 100000 in
theorem ApInv.start (t : Int) {L : Cn} (X : List Chg) (h : GoodC L) : ApInv t L X 0 L [] :=
  ⟨rfl, fun p c => by simp [seenC], fun _ _ => rfl, List.Pairwise.nil, Nat.le_refl _, Nat.le_refl _, h⟩
set_option maxRecDepth 100000 in
theorem ApInv.seen {t : Int} {L : Cn} {X : List Chg} {k : Nat} {M W : Cn} (h : ApInv t L X k M W) {p : Int × Int} (hi : inC W p = true) : seenC X k p := ((h.was _ _).1 (get_in hi)).1
set_option maxRecDepth 100000 in
theorem ApInv.unseen {t : Int} {L : Cn} {X : List Chg} {k : Nat} {M W : Cn} (h : ApInv t L X k M W) {p : Int × Int} (hi : inC W p = false) : ¬ seenC X k p := fun hs => by
  have := inC_iff.2 ⟨_, (h.was p _).2 ⟨hs, rfl⟩⟩
  rw [hi] at this; cases this
set_option maxRecDepth 100000 in
theorem ApInv.next {t : Int} {L : Cn} {X : List Chg} {k : Nat} {M M' W W' : Cn} (h : ApInv t L X k M W) (hk : k < X.length) (ha : addC M X[k].1 X[k].2 t = (M', 0)) (hp : FitsPr X[k].1)
    (hW : (inC W X[k].1 = true ∧ W' = W) ∨ (inC W X[k].1 = false ∧ W' = insC X[k].1 (getC M X[k].1) W)) : ApInv t L X (k + 1) M' W' := by
  have hM' : (addC M X[k].1 X[k].2 t).1 = M' := by rw [ha]
  refine ⟨?_, fun p c => ?_, fun p hp' => ?_, ?_, ?_, ?_, ?_⟩
  · rw [h.run, List.drop_eq_getElem_cons hk, runC_ok ha]
  · rw [seen_succ hk]
    rcases hW with ⟨hi, rfl⟩ | ⟨hi, rfl⟩
    · rw [h.was]
      constructor
      · rintro ⟨h1, h2⟩; exact ⟨.inl h1, h2⟩
      · rintro ⟨h1 | h1, h2⟩
        · exact ⟨h1, h2⟩
        · exact ⟨by rw [h1]; exact h.seen hi, h2⟩
    · have hns := h.unseen hi
      rw [ins_mem, h.was]
      constructor
      · rintro (e | ⟨⟨h1, h2⟩, _⟩)
        · cases e; exact ⟨.inr rfl, h.out _ hns⟩
        · exact ⟨.inl h1, h2⟩
      · rintro ⟨h1, h2⟩
        by_cases e : p = X[k].1
        · subst e; exact .inl (by rw [h2, h.out _ hns])
        · exact .inr ⟨⟨h1.resolve_right e, h2⟩, e⟩
  · rw [seen_succ hk] at hp'
    rw [← hM', add_other h.good.ris _ _ _ (fun e => hp' (.inr e)), h.out p fun hs => hp' (.inl hs)]
  · rcases hW with ⟨_, rfl⟩ | ⟨_, rfl⟩
    · exact h.risW
    · exact ris_ins h.risW
  · have := addC_len h.good.ris X[k].1 X[k].2 t
    rw [hM'] at this
    have := h.lenM
    omega
  · rcases hW with ⟨_, rfl⟩ | ⟨hi, rfl⟩
    · have := h.lenW; omega
    · rw [len_ins h.risW, hi]; have := h.lenW; simp; omega
  · rw [← hM']; exact h.good.add hp _ _
set_option maxRecDepth 100000 in
theorem ApInv.stop {t e : Int} {L : Cn} {X : List Chg} {k : Nat} {M M' W : Cn} (h : ApInv t L X k M W) (hk : k < X.length) (ha : addC M X[k].1 X[k].2 t = (M', e)) (he : e ≠ 0) : runC t L X = (M', e) := by
  rw [h.run, List.drop_eq_getElem_cons hk, runC_no ha he]
  rcases addC_err M X[k].1 X[k].2 t with h1 | h1
  · rw [ha] at h1; exact absurd h1 he
  · rw [ha] at h1; rw [← h1]
/-- The pairs whose counts are others, rising. -/
def ChgSet (L M : Cn) (X : List Chg) (Y : List (Int × Int)) : Prop := Y.Pairwise pb ∧ ∀ p, p ∈ Y ↔ (∃ x ∈ X, x.1 = p) ∧ getC M p ≠ getC L p
set_option maxRecDepth 100000 in
theorem ChgSet.unique {L M : Cn} {X : List Chg} {Y Z : List (Int × Int)} (h : ChgSet L M X Y) (k : ChgSet L M X Z) : Y = Z := rising_unique (fun _ _ h => pb_asymm h) (fun p => by rw [h.2, k.2]) h.1 k.1
set_option maxRecDepth 100000 in
theorem ApInv.fin {t : Int} {L : Cn} {X : List Chg} {M W Z : Cn} (h : ApInv t L X X.length M W) (hZ : RisC Z) (hm : ∀ x, x ∈ Z ↔ x ∈ W ∧ x.2 ≠ getC M x.1) : runC t L X = (M, 0) ∧ ChgSet L M X (keysC Z) := by
  refine ⟨by rw [h.run, List.drop_length]; rfl, ris_keys hZ, fun p => ?_⟩
  have hs : seenC X X.length p ↔ ∃ x ∈ X, x.1 = p := by unfold seenC; rw [List.take_length]
  rw [keysC, List.mem_map]
  constructor
  · rintro ⟨x, hx, rfl⟩
    obtain ⟨h1, h2⟩ := (hm x).1 hx
    obtain ⟨h3, h4⟩ := (h.was x.1 x.2).1 h1
    exact ⟨hs.1 h3, fun e => h2 (by rw [h4, e])⟩
  · rintro ⟨h1, h2⟩
    exact ⟨(p, getC L p), (hm _).2 ⟨(h.was _ _).2 ⟨hs.2 h1, rfl⟩, fun e => h2 e.symm⟩, rfl⟩
/-- What Apply has in memory. -/
structure ApSt (w : World) (K C b : Nat) (m0 : Option Nat) (M W : Cn) (wr : World) : Prop where
  obj : ∃ m, Cts wr K m M ∧ (m = m0 ∨ ∃ g, m = some g ∧ w.heap.size ≤ g) ∧ ¬ dmineC K m b
  box : wr.heap[C]? = some (.cells #[.pointer (some ⟨K, 0, none⟩)] 63 (0, 0))
  was : CMap wr b W
  kept : Kept (dmineC K m0) w wr
  newC : w.heap.size ≤ C
  newb : w.heap.size ≤ b
set_option maxRecDepth 100000 in
theorem ApSt.ltC {w wr : World} {K C b : Nat} {m0 : Option Nat} {M W : Cn} (h : ApSt w K C b m0 M W wr) : C < wr.heap.size := (Array.getElem?_eq_some_iff.1 h.box).1
set_option maxRecDepth 100000 in
theorem ApSt.cell {w wr : World} {K C b : Nat} {m0 : Option Nat} {M W : Cn} (h : ApSt w K C b m0 M W wr) : wr.cell? ⟨C, 0, none⟩ = some (.pointer (some ⟨K, 0, none⟩)) := by
  rw [cell_of_row wr C 0 _ 63 (0, 0) h.box]; rfl
set_option maxRecDepth 100000 in
theorem ApSt.neCb {w wr : World} {K C b : Nat} {m0 : Option Nat} {M W : Cn} (h : ApSt w K C b m0 M W wr) : C ≠ b := by
  rintro rfl
  obtain ⟨es, clock, hb⟩ := h.was.block
  have := h.box
  rw [hb] at this; cases this
set_option maxRecDepth 100000 in
theorem ApSt.later {w wr w' : World} {K C b : Nat} {m0 : Option Nat} {M W : Cn} (h : ApSt w K C b m0 M W wr) (hb : Below wr.heap.size wr w') : ApSt w K C b m0 M W w' := by
  obtain ⟨⟨m, h1, h2, h3⟩, hbox, hwas, hk, hc, hbb⟩ := h
  refine ⟨⟨m, h1.below hb, h2, h3⟩, (hb.block C (Array.getElem?_eq_some_iff.1 hbox).1).trans hbox, hwas.kept (hb.block b hwas.lt), ?_, hc, hbb⟩
  exact hk.trans (Kept.of_below (S := fun _ => False) hb (Nat.le_refl _)) (fun _ _ h => h.elim)
set_option maxRecDepth 100000 in
/-- The map of what was is turned. -/
theorem ApSt.put {w wr w' : World} {K C b : Nat} {m0 : Option Nat} {M W W' : Cn} (h : ApSt w K C b m0 M W wr) (ht : wr.grownBy w' (some b)) (hW : CMap w' b W') : ApSt w K C b m0 M W' w' := by
  have hne := h.neCb
  obtain ⟨⟨m, h1, h2, h3⟩, hbox, hwas, hk, hc, hbb⟩ := h
  refine ⟨⟨m, h1.kept fun k hlt hm => ht.block k hlt fun e => by cases e; exact h3 hm, h2, h3⟩, (ht.block C (Array.getElem?_eq_some_iff.1 hbox).1 (fun e => hne (by cases e; rfl))).trans hbox, hW, ?_, hc, hbb⟩
  exact hk.grown ht fun k e hk' => by cases e; omega
set_option maxRecDepth 100000 in
theorem ApSt.env {w wr : World} {K C b : Nat} {m0 : Option Nat} {M W : Cn} (h : ApSt w K C b m0 M W wr) : ∃ m, DEnv wr C K b m M := by
  have h0 := h.cell; have h1 := h.ltC; have h2 := h.neCb
  obtain ⟨⟨m, h3, _, h4⟩, _⟩ := h
  exact ⟨m, h0, h3, h1, h2, h4⟩
set_option maxRecDepth 100000 in
theorem ApSt.add {w wr : World} {K C b : Nat} {m0 : Option Nat} {M W : Cn} (h : ApSt w K C b m0 M W wr) (hg : GoodC M) {p q y t : Int} (hp : FitsPr (p, q)) (hy : FitsZ y) (ht : FitsZ t) (hl : M.length ≤ 1048576) :
    Calls Tryz.prog 64 #[.pointer (some ⟨K, 0, none⟩), .agg #[.int .i64 p, .int .i64 q], .int .i64 y, .int .i64 t] wr fun e w' => e = .returned (.int .i64 (addC M (p, q) y t).2) ∧ ApSt w K C b m0 (addC M (p, q) y t).1 W w' := by
  obtain ⟨⟨m, h1, h2, h3⟩, hbox, hwas, hk, hc, hbb⟩ := h
  refine (dcadd_any K m M p q y t wr h1 hg hp hy ht hl).mono ?_
  rintro e w' ⟨rfl, m', h4, h5, h6⟩
  have hCm : ¬ dmineC K m C := by
    rintro (rfl | e)
    · have := h1.1; rw [hbox] at this; cases this
    · subst e
      obtain ⟨es, clock, hb⟩ := CMap.block h1.2
      rw [hbox] at hb; cases hb
  refine ⟨rfl, ⟨m', h4, ?_, ?_⟩, (h5.block C (Array.getElem?_eq_some_iff.1 hbox).1 hCm).trans hbox, hwas.kept (h5.block b hwas.lt h3), hk.trans h5 fun i hi hm => ?_, hc, hbb⟩
  · rcases h6 with rfl | ⟨g, rfl, hg⟩
    · exact h2
    · exact .inr ⟨g, rfl, Nat.le_trans hk.size hg⟩
  · rintro (e | e)
    · exact h3 (.inl e)
    · rcases h6 with rfl | ⟨g, rfl, hg⟩
      · exact h3 (.inr e)
      · cases e; have := hwas.lt; omega
  · rcases hm with e | e
    · exact .inl e
    · rcases h2 with rfl | ⟨g, rfl, hg⟩
      · exact .inr e
      · cases e; omega
set_option maxRecDepth 100000 in
theorem ApSt.ret {w wr : World} {K C b : Nat} {m0 : Option Nat} {M W : Cn} (h : ApSt w K C b m0 M W wr) : CRet K m0 M w wr := by
  obtain ⟨⟨m, h1, h2, _⟩, _, _, hk, _, _⟩ := h
  exact ⟨m, h1, hk, h2⟩
end Go.Proofs.YtejcemmhhpbchaaGreat
